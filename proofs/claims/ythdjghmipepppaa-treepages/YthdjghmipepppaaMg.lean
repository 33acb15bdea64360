/- The walk over package page: splitLeaf. -/
import Derived.Test.YthdjghmipepppaaMf
namespace Go.Proofs.Ythdjghmipepppaa
open Go.RowKit
set_option linter.unusedVariables false
set_option linter.unusedSimpArgs false

/-- A half in the making is there: its box at f, its rows; all that was there stays. -/
structure Hf (W wx : World) (f : Nat) (c0 c1 c2 c3 : Value) (a5 : Option Addr) (m1 c5 : Nat) (l1 : List Value) (a6 : Option Addr) (m2 c6 : Nat) (l2 : List Value) : Prop where
  bel : Below W.heap.size W wx
  box : B4 wx f c0 c1 c2 c3
  flo : W.heap.size ≤ f
  one : Sl wx a5 m1 c5 l1
  two : Sl wx a6 m2 c6 l2
  lo1 : ∀ x, a5 = some x → W.heap.size ≤ x.block
  lo2 : ∀ x, a6 = some x → W.heap.size ≤ x.block
theorem Hf.next {W wx w2 : World} {f : Nat} {c0 c1 c2 c3 : Value} {a5 : Option Addr} {m1 c5 : Nat} {l1 : List Value} {a6 : Option Addr} {m2 c6 : Nat} {l2 : List Value} (h : Hf W wx f c0 c1 c2 c3 a5 m1 c5 l1 a6 m2 c6 l2) (b : Below wx.heap.size wx w2) : Hf W w2 f c0 c1 c2 c3 a5 m1 c5 l1 a6 m2 c6 l2 :=
  ⟨nextB h.bel b, h.box.below b, h.flo, h.one.below b, h.two.below b, h.lo1, h.lo2⟩
section
variable {W w5 w6 : World} {c0 c1 c2 c3 : Value} {a5 a6 : Option Addr} {m1 c5 m2 c6 : Nat} {l1 l2 : List Value} {z0 z1 z2 z3 : Value}
/-- The box was made ahead of the rows. -/
theorem Hf.mkA (b5 : Below W.heap.size W w5) (b6 : Below w5.heap.size w5 w6) (s5 : Sl w5 a5 m1 c5 l1) (s6 : Sl w6 a6 m2 c6 l2) (B : B4 w6 W.heap.size z0 z1 z2 z3) (n5 : ∀ x, a5 = some x → W.heap.size < x.block) (n6 : ∀ x, a6 = some x → W.heap.size < x.block) :
    Hf W ((((w6.setCell ⟨W.heap.size, 0, none⟩ c0).setCell ⟨W.heap.size, 1, none⟩ c1).setCell ⟨W.heap.size, 2, none⟩ c2).setCell ⟨W.heap.size, 3, none⟩ c3) W.heap.size c0 c1 c2 c3 a5 m1 c5 l1 a6 m2 c6 l2 := by
  have X := stored4 B c0 c1 c2 c3
  have b := nextB b5 b6
  exact ⟨b.grown X.2 b.size (fun k hk => by injection hk with hk; omega), X.1, Nat.le_refl _, (s5.below b6).grown X.2 (fun _ x hx e => by have := n5 x hx; injection e with e; omega), s6.grown X.2 (fun _ x hx e => by have := n6 x hx; injection e with e; omega), fun x hx => Nat.le_of_lt (n5 x hx), fun x hx => Nat.le_of_lt (n6 x hx)⟩
/-- Between them. -/
theorem Hf.mkB (b5 : Below W.heap.size W w5) (b6 : Below w5.heap.size w5 w6) (s5 : Sl w5 a5 m1 c5 l1) (s6 : Sl w6 a6 m2 c6 l2) (B : B4 w6 w5.heap.size z0 z1 z2 z3) (n5 : ∀ x, a5 = some x → W.heap.size ≤ x.block ∧ x.block < w5.heap.size) (n6 : ∀ x, a6 = some x → w5.heap.size < x.block) :
    Hf W ((((w6.setCell ⟨w5.heap.size, 0, none⟩ c0).setCell ⟨w5.heap.size, 1, none⟩ c1).setCell ⟨w5.heap.size, 2, none⟩ c2).setCell ⟨w5.heap.size, 3, none⟩ c3) w5.heap.size c0 c1 c2 c3 a5 m1 c5 l1 a6 m2 c6 l2 := by
  have X := stored4 B c0 c1 c2 c3
  have b := nextB b5 b6
  have q := b5.size
  exact ⟨b.grown X.2 b.size (fun k hk => by injection hk with hk; omega), X.1, q, (s5.below b6).grown X.2 (fun _ x hx e => by have := n5 x hx; injection e with e; omega), s6.grown X.2 (fun _ x hx e => by have := n6 x hx; injection e with e; omega), fun x hx => (n5 x hx).1, fun x hx => by have := n6 x hx; omega⟩
/-- Behind them. -/
theorem Hf.mkC {t : TypeId} (b5 : Below W.heap.size W w5) (b6 : Below w5.heap.size w5 w6) (s5 : Sl w5 a5 m1 c5 l1) (s6 : Sl w6 a6 m2 c6 l2) (n5 : ∀ x, a5 = some x → W.heap.size ≤ x.block ∧ x.block < w5.heap.size) (n6 : ∀ x, a6 = some x → w5.heap.size ≤ x.block) :
    Hf W (w6.alloc (.cells #[c0, c1, c2, c3] t)) w6.heap.size c0 c1 c2 c3 a5 m1 c5 l1 a6 m2 c6 l2 := by
  have b := nextB b5 b6
  have q := b5.size
  exact ⟨nextB b (allocB _ _), B4.new _ _ _ _ _ _, b.size, (s5.below b6).below (allocB _ _), s6.below (allocB _ _), fun x hx => (n5 x hx).1, fun x hx => by have := n6 x hx; omega⟩
theorem alloc_kept {t : TypeId} (b : Below ((W.alloc (.cells #[z0, z1, z2, z3] t)).drew).heap.size (W.alloc (.cells #[z0, z1, z2, z3] t)).drew w5) (hz : ∀ x, a5 = some x → ((W.alloc (.cells #[z0, z1, z2, z3] t)).drew).heap.size ≤ x.block) :
    B4 w5 W.heap.size z0 z1 z2 z3 ∧ (∀ o, w5.frozen? ⟨W.heap.size, o, none⟩ = false) ∧ (∀ x, a5 = some x → W.heap.size < x.block) := by
  have q : B4 (W.alloc (.cells #[z0, z1, z2, z3] t)).drew W.heap.size z0 z1 z2 z3 := (B4.new W z0 z1 z2 z3 t).below (Below.refl _ _).drew
  have f : ∀ o, (W.alloc (.cells #[z0, z1, z2, z3] t)).drew.frozen? ⟨W.heap.size, o, none⟩ = false := fun o => frozen_of_row _ _ _ _ _ (heap_alloc_new W _)
  refine ⟨q.below b, frozen_kept f (b.block _ q.lt), fun x hx => ?_⟩
  have := hz x hx
  rw [World.size_drew, World.size_alloc] at this
  omega
theorem alloc_kept2 {t : TypeId} (b : Below (W.alloc (.cells #[z0, z1, z2, z3] t)).heap.size (W.alloc (.cells #[z0, z1, z2, z3] t)) w5) (hz : ∀ x, a5 = some x → (W.alloc (.cells #[z0, z1, z2, z3] t)).heap.size ≤ x.block) :
    B4 w5 W.heap.size z0 z1 z2 z3 ∧ (∀ o, w5.frozen? ⟨W.heap.size, o, none⟩ = false) ∧ (∀ x, a5 = some x → W.heap.size < x.block) := by
  have q : B4 (W.alloc (.cells #[z0, z1, z2, z3] t)) W.heap.size z0 z1 z2 z3 := B4.new W z0 z1 z2 z3 t
  have f : ∀ o, (W.alloc (.cells #[z0, z1, z2, z3] t)).frozen? ⟨W.heap.size, o, none⟩ = false := fun o => frozen_of_row _ _ _ _ _ (heap_alloc_new W _)
  refine ⟨q.below b, frozen_kept f (b.block _ q.lt), fun x hx => ?_⟩
  have := hz x hx
  rw [World.size_alloc] at this
  omega
end
/-- Both results are stored: what was made stays, and they are there. -/
structure Fn (w W X : World) (x0 x1 x2 x3 y0 y1 y2 y3 : Value) : Prop where
  bel : Below w.heap.size w X
  ra : B4 X (w.heap.size + 1) x0 x1 x2 x3
  rb : B4 X (w.heap.size + 1 + 1) y0 y1 y2 y3
  sl : ∀ {a n c l}, Sl W a n c l → (∀ x, a = some x → w.heap.size + 3 ≤ x.block) → Sl X a n c l
  pv : ∀ {v p}, Pv W v p → Off v (w.heap.size + 1) → Off v (w.heap.size + 1 + 1) → Pv X v p
theorem Sp.fin {w : World} {c0 c1 c2 c3 : Value} {W : World} (h : Sp w c0 c1 c2 c3 W) (x0 x1 x2 x3 y0 y1 y2 y3 : Value) : Fn w W ((((((((W.setCell ⟨w.heap.size + 1, 0, none⟩ x0).setCell ⟨w.heap.size + 1, 1, none⟩ x1).setCell ⟨w.heap.size + 1, 2, none⟩ x2).setCell ⟨w.heap.size + 1, 3, none⟩ x3).setCell ⟨w.heap.size + 1 + 1, 0, none⟩ y0).setCell ⟨w.heap.size + 1 + 1, 1, none⟩ y1).setCell ⟨w.heap.size + 1 + 1, 2, none⟩ y2).setCell ⟨w.heap.size + 1 + 1, 3, none⟩ y3) x0 x1 x2 x3 y0 y1 y2 y3 := by
  have X := stored4 h.ra x0 x1 x2 x3
  have Y := stored4 (r := w.heap.size + 1 + 1) (h.rb.grown X.2 (fun e => by injection e with e; omega)) y0 y1 y2 y3
  have s := h.sz
  have s1 := X.2.size
  have b1 := h.bel.grown X.2 h.bel.size (fun k hk => by injection hk with hk; omega)
  exact ⟨b1.grown Y.2 b1.size (fun k hk => by injection hk with hk; omega), X.1.grown Y.2 (fun e => by injection e with e; omega), Y.1, fun q hx => (q.grown X.2 (fun _ x e k => by have := hx x e; injection k with k; omega)).grown Y.2 (fun _ x e k => by have := hx x e; injection k with k; omega), fun q o1 o2 => (q.out X.2 o1).out Y.2 o2⟩
theorem Off.mk {l : Value} {a1 : Option Addr} {m1 c1 : Nat} {a2 : Option Addr} {m2 c2 : Nat} {a3 : Option Addr} {m3 c3 r : Nat} (h1 : ∀ x, a1 = some x → x.block ≠ r) (h2 : ∀ x, a2 = some x → x.block ≠ r) (h3 : ∀ x, a3 = some x → x.block ≠ r) : Off (.agg #[l, .slice a1 m1 c1, .slice a2 m2 c2, .slice a3 m3 c3]) r := by
  intro l' b1 n1 d1 b2 n2 d2 b3 n3 d3 e
  injection e with e
  have e := congrArg Array.toList e
  simp at e
  obtain ⟨_, ⟨rfl, _, _⟩, ⟨rfl, _, _⟩, rfl, _, _⟩ := e
  exact ⟨fun x _ => h1 x, fun x _ => h2 x, fun x _ => h3 x⟩
/-- Two pages and a text are returned; what was there stays. -/
def NewS (w w' : World) (e : Ending) (p : Pg) (k : ByteArray) (q : Pg) : Prop := ∃ v u, e = .returned (.tuple #[v, .string k, u]) ∧ Pv w' v p ∧ Pv w' u q ∧ (∀ r, r < w.heap.size → Off v r ∧ Off u r) ∧ Below w.heap.size w w'

set_option maxRecDepth 100000 in
set_option maxHeartbeats 8000000 in
theorem splitLeaf_any (v : Value) (p : Pg) (w : World) (h : Pv w v p) (f : Fit p) (hl : p.leaf = true) (h2n : 2 ≤ p.keys.length) :
    Calls Try.prog 85 #[v] w fun e w' => NewS w w' e (lfA p) (kAt p.keys (mid (szs p.keys p.vals))) (lfB p) := by
  have VA : Hid _ := values_any v p
  obtain ⟨ka, kn, kc, va, vn, vc, ia, im, ic, rfl, h1, h2, h3⟩ := h.ex
  obtain ⟨lf, ks, vs, is⟩ := p
  simp only at h1 h2 h3 hl h2n VA
  subst hl
  have l1 := h1.slen
  have l2 := h2.slen
  have b1 := f.keys
  have b2 := f.tk
  have b3 := f.tv
  have ev := f.even rfl
  simp only at b1 b2 b3 ev
  obtain ⟨kb, ko, rfl, _⟩ := h1.at (by omega)
  have kf := h1.fits
  have n1 : kn ≤ 2000 := by omega
  have n2 : 2 ≤ kn := by omega
  have H : Hid _ := h
  have F : Hid _ := f
  have HK : Hid _ := h1
  have LL : Hid (ks.length = kn ∧ vs.length = kn) := by show _ ∧ _; omega
  have SLn : Hid ((szs ks vs).length = kn) := by show _ = _; rw [szs_len ks vs ev]; exact l1
  have SSm : Hid (sumL (szs ks vs) ≤ 62000) := by have := encI_le ks vs (by omega) (by omega); rw [szs_sum] at this; show _ ≤ _; omega
  have SAt : Hid (∀ i, i < kn → (szs ks vs).getD i 0 = (encS (kAt ks i) ++ encS (kAt vs i)).length) := fun i hi => szs_at ks vs i ev (by omega)
  have C0 : Hid (Sp w (.bool true) (.slice (some ⟨kb, ko, none⟩) kn kc) (.slice va vn vc) (.slice ia im ic) (((w.alloc (.cells #[.bool true, .slice (some ⟨kb, ko, none⟩) kn kc, .slice va vn vc, .slice ia im ic] 54)).alloc (.cells #[.bool false, (.slice none 0 0), (.slice none 0 0), (.slice none 0 0)] 54)).alloc (.cells #[.bool false, (.slice none 0 0), (.slice none 0 0), (.slice none 0 0)] 54))) := Sp.new w _ _ _ _ _ _ _
  unfold lfA lfB
  simp only
  generalize hsz : szs ks vs = L at *
  have HSZ : Hid _ := hsz
  clear hsz h f h1 h2 h3 l1 l2 ev b1
  go_enter Try.func85, Try.ntmps85
  go_upto_region 1 with fail
  generalize ((w.alloc (.cells #[.bool true, .slice (some ⟨kb, ko, none⟩) kn kc, .slice va vn vc, .slice ia im ic] 54)).alloc (.cells #[.bool false, (.slice none 0 0), (.slice none 0 0), (.slice none 0 0)] 54)).alloc (.cells #[.bool false, (.slice none 0 0), (.slice none 0 0), (.slice none 0 0)] 54) = W0 at *
  have x0 := C0.out.box.a0
  have x1 := C0.out.box.a1
  have x2 := C0.out.box.a2
  have x3 := C0.out.box.a3
  go_wp2_with fail
  refine Calls.mono (VA.out W0 (H.out.below C0.out.bel) F.out (by simp)) ?_
  rintro e w1 ⟨⟨v1, rfl, o1⟩, bl1⟩
  obtain ⟨vb, ec, rfl, s1, z1⟩ : ∃ vb ec, v1 = .slice (some ⟨vb, 0, none⟩) kn ec ∧ Sl w1 (some ⟨vb, 0, none⟩) kn ec (sv vs) ∧ W0.heap.size ≤ vb ∧ vb < w1.heap.size := by
    obtain ⟨a, c, e, s, z, hh⟩ := o1.sl
    have q := LL.out
    rw [sv_len, q.2] at e s
    rcases hh with r | ⟨g, r⟩
    · rw [r] at s; have := s.none_nil; omega
    · subst r
      exact ⟨g, c, e, s, z _ rfl⟩
  have Q1 : Hid _ := C0.out.next bl1
  have WZ := C0.out.sz
  have MK : (Instr.makeSlice 155 (.int .i64 (kn : Nat)) (.int .i64 (kn : Nat))).run Try.prog w1 = .ok (.slice (some ⟨w1.heap.size, 0, none⟩) kn kn) (w1.alloc (.cells (List.replicate kn (Value.int .i64 0)).toArray 3)) := make_int w1 kn (by omega)
  have SL0 : Hid (SL w (.bool true) (.slice (some ⟨kb, ko, none⟩) kn kc) (.slice va vn vc) (.slice ia im ic) (some ⟨kb, ko, none⟩) kn kc (sv ks) (some ⟨vb, 0, none⟩) kn ec (sv vs) w1.heap.size (fil L 0) (w1.alloc (.cells (List.replicate kn (Value.int .i64 0)).toArray 3))) := by
    have B := allocB w1 (.cells (List.replicate kn (Value.int .i64 0)).toArray 3)
    have q := ow_new w1 3 (List.replicate kn (Value.int .i64 0)) (fun u hu => by rw [List.mem_replicate] at hu; rw [hu.2]; rfl) (by simp; omega)
    obtain ⟨a, c, e, s, _, _⟩ := q.sl
    simp only [List.length_replicate] at e s
    injection e with e1 e2 e3
    rw [← e1, ← e3] at s
    refine ⟨Q1.out.next B, HK.out.below (nextB Q1.out.bel B), s1.below B, ?_, fun o => frozen_of_row _ _ _ _ _ (heap_alloc_new w1 _), by simp, by have := bl1.size; omega, fun x p hx => HK.out.old p x hx, fun x _ hx => by injection hx with hx; subst hx; exact ⟨z1.2, by have := z1.1; simp only; omega⟩⟩
    rw [fil_none, SLn.out]
    exact s
  have kn' : (kn : Int) ≤ 2000 := by omega
  generalize (List.replicate kn (Value.int .i64 0)).toArray = RZ at *
  clear o1 bl1 s1 z1 Q1 x0 x1 x2 x3 VA
  go_wp2_with fail
  generalize w1.alloc (.cells RZ 3) = w2 at *
  generalize w1.heap.size = sb at *
  clear MK
  go_loopg [19] kn (fun g iv' wr => ∃ k : Nat, k ≤ kn ∧ g = kn - k ∧ iv' = .int .i64 (k : Nat) ∧ Hid (SL w (.bool true) (.slice (some ⟨kb, ko, none⟩) kn kc) (.slice va vn vc) (.slice ia im ic) (some ⟨kb, ko, none⟩) kn kc (sv ks) (some ⟨vb, 0, none⟩) kn ec (sv vs) sb (fil L k) wr))
  case atStart => exact ⟨0, Nat.zero_le _, rfl, rfl, SL0.out⟩
  case round =>
    obtain ⟨k, hk, rfl, rfl, hS⟩ := hrel
    by_cases c : k < kn
    · have c' : (k : Int) < (kn : Int) := by omega
      have e1 : wr.cell? ⟨kb, ko + k, none⟩ = some (.string (kAt ks k)) := hS.out.key.str c
      have e2 : wr.cell? ⟨vb, 0 + k, none⟩ = some (.string (kAt vs k)) := hS.out.val.str c
      rw [Nat.zero_add] at e2
      have y1 := hS.out.sp.box.a1
      have K : Hid _ := item_any (kAt ks k) (kAt vs k) wr (Nat.le_trans (kAt_le (ss := ks) k) (by omega)) (Nat.le_trans (kAt_le (ss := vs) k) (by omega))
      have SA : Hid _ := SAt.out k c
      have SF : Hid _ := fil_set (l := L) (k := k) (by have := SLn.out; omega)
      rw [SA.out] at SF
      generalize kAt ks k = s at *
      generalize kAt vs k = t at *
      go_wp2_with fail
      refine Calls.mono K.out ?_
      rintro e w3 ⟨⟨v3, rfl, o3⟩, b3⟩
      obtain ⟨a3, c3, rfl, _, _, _⟩ := o3.by
      obtain ⟨z, hz⟩ : ∃ z, z = (encS s ++ encS t).length := ⟨_, rfl⟩
      rw [← hz] at SF ⊢
      have HZ : Hid _ := hz
      clear hz o3
      have S3 : Hid _ := hS.out.next b3
      have d1 : w3.cell? ⟨sb, k, none⟩ = some ((fil L k)[k]'(by rw [S3.out.siz.len]; exact c)) := by
        have := S3.out.siz.cells k _ (List.getElem?_eq_getElem (by rw [S3.out.siz.len]; exact c))
        rwa [Nat.zero_add] at this
      have d2 := S3.out.fz
      have S4 : Hid _ := S3.out.put (i := k) (u := .int .i64 (z : Nat)) c rfl
      rw [SF.out] at S4
      generalize (fil L k)[k]'(by rw [S3.out.siz.len]; exact c) = old at d1
      go_wp2_with fail
      go_roundg (kn - (k + 1))
      case measure => omega
      case rel => exact ⟨k + 1, by omega, rfl, by go_num, S4.out⟩
    · obtain rfl : kn = k := by omega
      have S5 : Hid _ := hS.out
      have FA : Hid (fil L kn = iv L) := by show _ = _; have := SLn.out; rw [← this]; exact fil_all L
      rw [FA.out] at S5
      have KM : Hid _ := middle_any sb 0 kn kn L wr S5.out.siz n2 (by omega) (by have := SSm.out; omega)
      obtain ⟨m, hm⟩ : ∃ m, m = mid L := ⟨_, rfl⟩
      have mb : 1 ≤ m ∧ m < kn := by have := mid_bd (l := L) (by have := SLn.out; omega); have := SLn.out; omega
      rw [← hm] at KM
      have HM : Hid _ := hm
      clear hm SL0 hS
      go_wp2_with fail
      refine Calls.mono KM.out ?_
      rintro e wm ⟨rfl, bm⟩
      have SM : Hid _ := S5.out.next bm
      have m0 : (0 : Int) ≤ (m : Int) := by omega
      have m1 : (m : Int) ≤ (kn : Int) := by omega
      have m2 : (m : Int) < (kn : Int) := by omega
      have vf := SM.out.val.fits
      have CU1 := cut_upto Try.underlying52 strInfo kb ko kn kc m (m : Nat) rfl (by omega)
      have CU2 := cut_upto Try.underlying52 strInfo vb 0 kn ec m (m : Nat) rfl (by omega)
      obtain ⟨O1, CF1, hO1⟩ := cut_from Try.underlying52 strInfo kb ko kn kc m (m : Nat) rfl (by omega) (by omega)
      obtain ⟨O2, CF2, hO2⟩ := cut_from Try.underlying52 strInfo vb 0 kn ec m (m : Nat) rfl (by omega) (by omega)
      obtain ⟨r, hr⟩ : ∃ r, r = kn - m := ⟨_, rfl⟩
      obtain ⟨kc2, hkc2⟩ : ∃ kc2, kc2 = kc - m := ⟨_, rfl⟩
      obtain ⟨ec2, hec2⟩ : ∃ ec2, ec2 = ec - m := ⟨_, rfl⟩
      rw [← hr, ← hkc2] at CF1
      rw [← hr, ← hec2] at CF2
      have SK1 : Hid (Sl wm (some ⟨kb, ko, none⟩) m kc (sv (ks.take m))) := by rw [← sv_take]; exact SM.out.key.take (by omega)
      have SV1 : Hid (Sl wm (some ⟨vb, 0, none⟩) m ec (sv (vs.take m))) := by rw [← sv_take]; exact SM.out.val.take (by omega)
      have SK2 : Hid (Sl wm (some ⟨kb, O1, none⟩) r kc2 (sv (ks.drop m))) := by rw [← sv_drop, hr, hkc2]; exact SM.out.key.drop (by omega) hO1
      have SV2 : Hid (Sl wm (some ⟨vb, O2, none⟩) r ec2 (sv (vs.drop m))) := by rw [← sv_drop, hr, hec2]; exact SM.out.val.drop (by omega) hO2
      have HR : Hid _ := And.intro hr (And.intro hkc2 (And.intro hec2 (And.intro hO1 hO2)))
      have rb : r ≤ 2000 := by omega
      clear hr hkc2 hec2 hO1 hO2 KM S5
      have kx : wm.cell? ⟨kb, ko + m, none⟩ = some (.string (kAt ks m)) := SM.out.key.str mb.2
      have KX : Hid _ := kx
      clear kx
      go_upto_region 9 with fail
      have hwm : w.heap.size < wm.heap.size := SM.out.sp.box.lt
      have hwn : wm.heap.size ≠ w.heap.size := by omega
      have Q0 : Hid _ := SM.out.sp.next (Below.refl _ _).drew
      have S0 : wm.drew.cell? ⟨w.heap.size, 0, none⟩ = some (.bool true) ∧ wm.drew.cell? ⟨w.heap.size, 1, none⟩ = some (.slice (some ⟨kb, ko, none⟩) kn kc) ∧ wm.drew.cell? ⟨w.heap.size, 2, none⟩ = some (.slice va vn vc) ∧ wm.drew.cell? ⟨w.heap.size, 3, none⟩ = some (.slice ia im ic) := ⟨Q0.out.box.a0, Q0.out.box.a1, Q0.out.box.a2, Q0.out.box.a3⟩
      have S9 : wm.cell? ⟨w.heap.size, 0, none⟩ = some (.bool true) ∧ wm.cell? ⟨w.heap.size, 1, none⟩ = some (.slice (some ⟨kb, ko, none⟩) kn kc) ∧ wm.cell? ⟨w.heap.size, 2, none⟩ = some (.slice va vn vc) ∧ wm.cell? ⟨w.heap.size, 3, none⟩ = some (.slice ia im ic) := ⟨Q0.out.box.a0, Q0.out.box.a1, Q0.out.box.a2, Q0.out.box.a3⟩
      obtain ⟨x0, x1, x2, x3⟩ := S9
      have K1 : Hid _ := fun (W : World) (b : Below wm.heap.size wm W) => cloneS_any (some ⟨kb, ko, none⟩) m kc (sv (ks.take m)) W (SK1.out.below b) (by omega)
      have K2 : Hid _ := fun (W : World) (b : Below wm.heap.size wm W) => cloneS_any (some ⟨vb, 0, none⟩) m ec (sv (vs.take m)) W (SV1.out.below b) (by omega)
      go_cut [10] from 38 to 47 (fun s wx => ∃ f a5 c5 a6 c6, s = .pointer (some ⟨f, 0, none⟩) ∧ Hid (Hf wm wx f (.bool true) (.slice a5 (sv (ks.take m)).length c5) (.slice a6 (sv (vs.take m)).length c6) (.slice none 0 0) a5 (sv (ks.take m)).length c5 (sv (ks.take m)) a6 (sv (vs.take m)).length c6 (sv (vs.take m))))
      case first =>
        go_region_held3 (fun W => W.cell? ⟨w.heap.size, 0, none⟩ = some (.bool true) ∧ W.cell? ⟨w.heap.size, 1, none⟩ = some (.slice (some ⟨kb, ko, none⟩) kn kc) ∧ W.cell? ⟨w.heap.size, 2, none⟩ = some (.slice va vn vc) ∧ W.cell? ⟨w.heap.size, 3, none⟩ = some (.slice ia im ic)) (first | with_reducible assumption | (go_keep; done)) (first | (go_at_call 63; refine Calls.mono (K1.out _ ?_) ?_; (first | exact (Below.refl _ _).drew | exact (allocB _ _).drew); rintro e w5 ⟨⟨v5, rfl, o5⟩, b5'⟩; obtain ⟨a5, c5, rfl, s5, z5', _⟩ := o5.sl; have b5 : Below wm.heap.size wm w5 := (by first | exact nextB (Below.refl _ _).drew b5' | exact nextB (allocB _ _).drew b5'); have z5 : Hid (∀ x, a5 = some x → wm.heap.size ≤ x.block ∧ x.block < w5.heap.size) := (fun x hx => by have := z5' x hx; (try simp only [World.size_alloc, World.size_drew] at this); omega); (first | (have A5 : Hid (B4 w5 wm.heap.size (.bool false) (.slice none 0 0) (.slice none 0 0) (.slice none 0 0) ∧ (∀ o, w5.frozen? ⟨wm.heap.size, o, none⟩ = false) ∧ (∀ x, a5 = some x → wm.heap.size < x.block)) := alloc_kept b5' (fun x hx => (z5' x hx).1)) | skip); have Q5 : Hid _ := SM.out.sp.next b5; have S5 := And.intro Q5.out.box.a0 (And.intro Q5.out.box.a1 (And.intro Q5.out.box.a2 Q5.out.box.a3)); have hw5 : w.heap.size < w5.heap.size := Q5.out.box.lt; clear K1 o5 b5' z5'; have hw5n : w5.heap.size ≠ w.heap.size := Nat.ne_of_gt hw5) | (go_at_call 63; refine Calls.mono (K2.out _ ?_) ?_; (first | exact b5 | exact nextB b5 (allocB _ _)); rintro e w6 ⟨⟨v6, rfl, o6⟩, b6'⟩; obtain ⟨a6, c6, rfl, s6, z6', _⟩ := o6.sl; have b6 : Below w5.heap.size w5 w6 := (by first | exact b6' | exact nextB (allocB _ _) b6'); have z6 : Hid (∀ x, a6 = some x → w5.heap.size ≤ x.block) := (fun x hx => by have := z6' x hx; (try simp only [World.size_alloc] at this); omega); (first | (have A6 : Hid (B4 w6 wm.heap.size (.bool false) (.slice none 0 0) (.slice none 0 0) (.slice none 0 0) ∧ (∀ o, w6.frozen? ⟨wm.heap.size, o, none⟩ = false)) := ⟨A5.out.1.below b6, frozen_kept A5.out.2.1 (b6.block _ A5.out.1.lt)⟩; have p0 := A6.out.1.a0; have p1 := A6.out.1.a1; have p2 := A6.out.1.a2; have p3 := A6.out.1.a3; have pz := A6.out.2) | (have A6 : Hid (B4 w6 w5.heap.size (.bool false) (.slice none 0 0) (.slice none 0 0) (.slice none 0 0) ∧ (∀ o, w6.frozen? ⟨w5.heap.size, o, none⟩ = false) ∧ (∀ x, a6 = some x → w5.heap.size < x.block)) := alloc_kept2 b6' (fun x hx => (z6' x hx).1); have p0 := A6.out.1.a0; have p1 := A6.out.1.a1; have p2 := A6.out.1.a2; have p3 := A6.out.1.a3; have pz := A6.out.2.1) | skip); have Q6 : Hid _ := Q5.out.next b6; have S6 := And.intro Q6.out.box.a0 (And.intro Q6.out.box.a1 (And.intro Q6.out.box.a2 Q6.out.box.a3)); clear K2 o6 b6' z6'))
        all_goals go_wp2
        all_goals go_meet
        all_goals first
          | exact ⟨_, a5, c5, a6, c6, rfl, Hf.mkA b5 b6 s5 s6 A6.out.1 A5.out.2.2 (fun x hx => by have := z6.out x hx; have := A5.out.1.lt; omega)⟩
          | exact ⟨_, a5, c5, a6, c6, rfl, Hf.mkB b5 b6 s5 s6 A6.out.1 z5.out A6.out.2.2⟩
          | exact ⟨_, a5, c5, a6, c6, rfl, Hf.mkC b5 b6 s5 s6 z5.out z6.out⟩
      case rest =>
        obtain ⟨f1, a1, c1, a2, c2, rfl, hF⟩ := hcut
        clear S0 x0 x1 x2 x3 K1 K2 Q0 hwm hwn CU1 CU2
        obtain ⟨wn, hwn⟩ : ∃ wn, wn = wc := ⟨_, rfl⟩
        subst hwn
        have SN : Hid _ := SM.out.next hF.out.bel
        have BN : Hid _ := hF.out.bel
        have nil1 : (sv (ks.take m)).length ≤ 100000 := by have := LL.out; rw [sv_len, List.length_take]; omega
        go_upto_region 10 with fail
        have hwm : w.heap.size < wn.heap.size := SN.out.sp.box.lt
        have hwn : wn.heap.size ≠ w.heap.size := Nat.ne_of_gt hwm
        have Q0 : Hid _ := SN.out.sp.next (Below.refl _ _).drew
        have S0 : wn.drew.cell? ⟨w.heap.size, 0, none⟩ = some (.bool true) ∧ wn.drew.cell? ⟨w.heap.size, 1, none⟩ = some (.slice (some ⟨kb, ko, none⟩) kn kc) ∧ wn.drew.cell? ⟨w.heap.size, 2, none⟩ = some (.slice va vn vc) ∧ wn.drew.cell? ⟨w.heap.size, 3, none⟩ = some (.slice ia im ic) := ⟨Q0.out.box.a0, Q0.out.box.a1, Q0.out.box.a2, Q0.out.box.a3⟩
        have S9 : wn.cell? ⟨w.heap.size, 0, none⟩ = some (.bool true) ∧ wn.cell? ⟨w.heap.size, 1, none⟩ = some (.slice (some ⟨kb, ko, none⟩) kn kc) ∧ wn.cell? ⟨w.heap.size, 2, none⟩ = some (.slice va vn vc) ∧ wn.cell? ⟨w.heap.size, 3, none⟩ = some (.slice ia im ic) := ⟨Q0.out.box.a0, Q0.out.box.a1, Q0.out.box.a2, Q0.out.box.a3⟩
        obtain ⟨x0, x1, x2, x3⟩ := S9
        have K1 : Hid _ := fun (W : World) (b : Below wn.heap.size wn W) => cloneS_any (some ⟨kb, O1, none⟩) r kc2 (sv (ks.drop m)) W ((SK2.out.below BN.out).below b) (by omega)
        have K2 : Hid _ := fun (W : World) (b : Below wn.heap.size wn W) => cloneS_any (some ⟨vb, O2, none⟩) r ec2 (sv (vs.drop m)) W ((SV2.out.below BN.out).below b) (by omega)
        go_cut [11] from 48 to 57 (fun s wx => ∃ f a5 c5 a6 c6, s = .pointer (some ⟨f, 0, none⟩) ∧ Hid (Hf wn wx f (.bool true) (.slice a5 (sv (ks.drop m)).length c5) (.slice a6 (sv (vs.drop m)).length c6) (.slice none 0 0) a5 (sv (ks.drop m)).length c5 (sv (ks.drop m)) a6 (sv (vs.drop m)).length c6 (sv (vs.drop m))))
        case first =>
          go_region_held3 (fun W => W.cell? ⟨w.heap.size, 0, none⟩ = some (.bool true) ∧ W.cell? ⟨w.heap.size, 1, none⟩ = some (.slice (some ⟨kb, ko, none⟩) kn kc) ∧ W.cell? ⟨w.heap.size, 2, none⟩ = some (.slice va vn vc) ∧ W.cell? ⟨w.heap.size, 3, none⟩ = some (.slice ia im ic)) (first | with_reducible assumption | (go_keep; done)) (first | (go_at_call 63; refine Calls.mono (K1.out _ ?_) ?_; (first | exact (Below.refl _ _).drew | exact (allocB _ _).drew); rintro e w5 ⟨⟨v5, rfl, o5⟩, b5'⟩; obtain ⟨a5, c5, rfl, s5, z5', _⟩ := o5.sl; have b5 : Below wn.heap.size wn w5 := (by first | exact nextB (Below.refl _ _).drew b5' | exact nextB (allocB _ _).drew b5'); have z5 : Hid (∀ x, a5 = some x → wn.heap.size ≤ x.block ∧ x.block < w5.heap.size) := (fun x hx => by have := z5' x hx; (try simp only [World.size_alloc, World.size_drew] at this); omega); (first | (have A5 : Hid (B4 w5 wn.heap.size (.bool false) (.slice none 0 0) (.slice none 0 0) (.slice none 0 0) ∧ (∀ o, w5.frozen? ⟨wn.heap.size, o, none⟩ = false) ∧ (∀ x, a5 = some x → wn.heap.size < x.block)) := alloc_kept b5' (fun x hx => (z5' x hx).1)) | skip); have Q5 : Hid _ := SN.out.sp.next b5; have S5 := And.intro Q5.out.box.a0 (And.intro Q5.out.box.a1 (And.intro Q5.out.box.a2 Q5.out.box.a3)); have hw5 : w.heap.size < w5.heap.size := Q5.out.box.lt; clear K1 o5 b5' z5'; have hw5n : w5.heap.size ≠ w.heap.size := Nat.ne_of_gt hw5) | (go_at_call 63; refine Calls.mono (K2.out _ ?_) ?_; (first | exact b5 | exact nextB b5 (allocB _ _)); rintro e w6 ⟨⟨v6, rfl, o6⟩, b6'⟩; obtain ⟨a6, c6, rfl, s6, z6', _⟩ := o6.sl; have b6 : Below w5.heap.size w5 w6 := (by first | exact b6' | exact nextB (allocB _ _) b6'); have z6 : Hid (∀ x, a6 = some x → w5.heap.size ≤ x.block) := (fun x hx => by have := z6' x hx; (try simp only [World.size_alloc] at this); omega); (first | (have A6 : Hid (B4 w6 wn.heap.size (.bool false) (.slice none 0 0) (.slice none 0 0) (.slice none 0 0) ∧ (∀ o, w6.frozen? ⟨wn.heap.size, o, none⟩ = false)) := ⟨A5.out.1.below b6, frozen_kept A5.out.2.1 (b6.block _ A5.out.1.lt)⟩; have p0 := A6.out.1.a0; have p1 := A6.out.1.a1; have p2 := A6.out.1.a2; have p3 := A6.out.1.a3; have pz := A6.out.2) | (have A6 : Hid (B4 w6 w5.heap.size (.bool false) (.slice none 0 0) (.slice none 0 0) (.slice none 0 0) ∧ (∀ o, w6.frozen? ⟨w5.heap.size, o, none⟩ = false) ∧ (∀ x, a6 = some x → w5.heap.size < x.block)) := alloc_kept2 b6' (fun x hx => (z6' x hx).1); have p0 := A6.out.1.a0; have p1 := A6.out.1.a1; have p2 := A6.out.1.a2; have p3 := A6.out.1.a3; have pz := A6.out.2.1) | skip); have Q6 : Hid _ := Q5.out.next b6; have S6 := And.intro Q6.out.box.a0 (And.intro Q6.out.box.a1 (And.intro Q6.out.box.a2 Q6.out.box.a3)); clear K2 o6 b6' z6'))
          all_goals go_wp2
          all_goals go_meet
          all_goals first
            | exact ⟨_, a5, c5, a6, c6, rfl, Hf.mkA b5 b6 s5 s6 A6.out.1 A5.out.2.2 (fun x hx => by have := z6.out x hx; have := A5.out.1.lt; omega)⟩
            | exact ⟨_, a5, c5, a6, c6, rfl, Hf.mkB b5 b6 s5 s6 A6.out.1 z5.out A6.out.2.2⟩
            | exact ⟨_, a5, c5, a6, c6, rfl, Hf.mkC b5 b6 s5 s6 z5.out z6.out⟩
        case rest =>
          obtain ⟨f2, a3, c3, a4, c4, rfl, hE⟩ := hcut
          clear S0 x0 x1 x2 x3 K1 K2 Q0 CF1 CF2
          obtain ⟨wp, hwp⟩ : ∃ wp, wp = wc := ⟨_, rfl⟩
          subst hwp
          have SP : Hid _ := SN.out.next hE.out.bel
          go_upto_region 11 with fail
          have hG : Hid _ := hF.out.next hE.out.bel
          have kk : Hid (wp.cell? ⟨kb, ko + m, none⟩ = some (.string (kAt ks m))) := SP.out.key.str mb.2
          have e1 : w.heap.size + 3 ≤ f1 := Nat.le_trans SM.out.sp.sz hF.out.flo
          have e2 : w.heap.size + 3 ≤ f2 := Nat.le_trans SN.out.sp.sz hE.out.flo
          have e3 : kb < w.heap.size := SM.out.kap ⟨kb, ko, none⟩ (by omega) rfl
          have L1 : Hid ((∀ x, a1 = some x → w.heap.size + 3 ≤ x.block) ∧ (∀ x, a2 = some x → w.heap.size + 3 ≤ x.block) ∧ (∀ x, a3 = some x → w.heap.size + 3 ≤ x.block) ∧ (∀ x, a4 = some x → w.heap.size + 3 ≤ x.block)) := ⟨fun x hx => Nat.le_trans SM.out.sp.sz (hF.out.lo1 x hx), fun x hx => Nat.le_trans SM.out.sp.sz (hF.out.lo2 x hx), fun x hx => Nat.le_trans SN.out.sp.sz (hE.out.lo1 x hx), fun x hx => Nat.le_trans SN.out.sp.sz (hE.out.lo2 x hx)⟩
          have d1 : w.heap.size + 1 ≠ f1 := by omega
          have d2 : w.heap.size + 1 ≠ f2 := by omega
          have d3 : w.heap.size + 1 + 1 ≠ f1 := by omega
          have d4 : w.heap.size + 1 + 1 ≠ f2 := by omega
          have d5 : w.heap.size + 1 ≠ kb := by omega
          have d6 : w.heap.size + 1 + 1 ≠ kb := by omega
          have d7 : w.heap.size + 1 + 1 ≠ w.heap.size := by omega
          have d8 : w.heap.size + 1 ≠ w.heap.size := by omega
          have y := And.intro hG.out.box.a0 (And.intro hG.out.box.a1 (And.intro hG.out.box.a2 (And.intro hG.out.box.a3 (And.intro hE.out.box.a0 (And.intro hE.out.box.a1 (And.intro hE.out.box.a2 (And.intro hE.out.box.a3 (And.intro SP.out.sp.box.a1 kk.out))))))))
          obtain ⟨y0, y1, y2, y3, y4, y5, y6, y7, y8, y9⟩ := y
          have g0 := SP.out.sp.ra.a0
          have g1 := SP.out.sp.ra.a1
          have g2 := SP.out.sp.ra.a2
          have g3 := SP.out.sp.ra.a3
          have g4 : wp.cell? ⟨w.heap.size + 1 + 1, 0, none⟩ = _ := SP.out.sp.rb.a0
          have g5 : wp.cell? ⟨w.heap.size + 1 + 1, 1, none⟩ = _ := SP.out.sp.rb.a1
          have g6 : wp.cell? ⟨w.heap.size + 1 + 1, 2, none⟩ = _ := SP.out.sp.rb.a2
          have g7 : wp.cell? ⟨w.heap.size + 1 + 1, 3, none⟩ = _ := SP.out.sp.rb.a3
          have ga := SP.out.sp.fa
          have gb : ∀ o, wp.frozen? ⟨w.heap.size + 1 + 1, o, none⟩ = false := SP.out.sp.fb
          go_region_held3 (fun W => W.cell? ⟨f1, 0, none⟩ = some (.bool true) ∧ W.cell? ⟨f1, 1, none⟩ = some (.slice a1 (sv (ks.take m)).length c1) ∧ W.cell? ⟨f1, 2, none⟩ = some (.slice a2 (sv (vs.take m)).length c2) ∧ W.cell? ⟨f1, 3, none⟩ = some (.slice none 0 0) ∧ W.cell? ⟨f2, 0, none⟩ = some (.bool true) ∧ W.cell? ⟨f2, 1, none⟩ = some (.slice a3 (sv (ks.drop m)).length c3) ∧ W.cell? ⟨f2, 2, none⟩ = some (.slice a4 (sv (vs.drop m)).length c4) ∧ W.cell? ⟨f2, 3, none⟩ = some (.slice none 0 0) ∧ W.cell? ⟨w.heap.size, 1, none⟩ = some (.slice (some ⟨kb, ko, none⟩) kn kc) ∧ W.cell? ⟨kb, ko + m, none⟩ = some (.string (kAt ks m))) (first | with_reducible assumption | (go_keep; done)) (fail)
          all_goals go_wp2
          have X : Hid _ := SP.out.sp.fin (.bool true) (.slice a1 (sv (ks.take m)).length c1) (.slice a2 (sv (vs.take m)).length c2) (.slice none 0 0) (.bool true) (.slice a3 (sv (ks.drop m)).length c3) (.slice a4 (sv (vs.drop m)).length c4) (.slice none 0 0)
          have P1 : Hid (Pv ((((((((wp.setCell ⟨w.heap.size + 1, 0, none⟩ (.bool true)).setCell ⟨w.heap.size + 1, 1, none⟩ (.slice a1 (sv (ks.take m)).length c1)).setCell ⟨w.heap.size + 1, 2, none⟩ (.slice a2 (sv (vs.take m)).length c2)).setCell ⟨w.heap.size + 1, 3, none⟩ (.slice none 0 0)).setCell ⟨w.heap.size + 1 + 1, 0, none⟩ (.bool true)).setCell ⟨w.heap.size + 1 + 1, 1, none⟩ (.slice a3 (sv (ks.drop m)).length c3)).setCell ⟨w.heap.size + 1 + 1, 2, none⟩ (.slice a4 (sv (vs.drop m)).length c4)).setCell ⟨w.heap.size + 1 + 1, 3, none⟩ (.slice none 0 0)) (.agg #[.bool true, .slice a1 (sv (ks.take m)).length c1, .slice a2 (sv (vs.take m)).length c2, .slice none 0 0]) ⟨true, ks.take m, vs.take m, []⟩) := Pv.mk' (X.out.sl hG.out.one L1.out.1) (X.out.sl hG.out.two L1.out.2.1) (Sl.empty _) (fun k hk => by simp at hk)
          have P2 : Hid (Pv ((((((((wp.setCell ⟨w.heap.size + 1, 0, none⟩ (.bool true)).setCell ⟨w.heap.size + 1, 1, none⟩ (.slice a1 (sv (ks.take m)).length c1)).setCell ⟨w.heap.size + 1, 2, none⟩ (.slice a2 (sv (vs.take m)).length c2)).setCell ⟨w.heap.size + 1, 3, none⟩ (.slice none 0 0)).setCell ⟨w.heap.size + 1 + 1, 0, none⟩ (.bool true)).setCell ⟨w.heap.size + 1 + 1, 1, none⟩ (.slice a3 (sv (ks.drop m)).length c3)).setCell ⟨w.heap.size + 1 + 1, 2, none⟩ (.slice a4 (sv (vs.drop m)).length c4)).setCell ⟨w.heap.size + 1 + 1, 3, none⟩ (.slice none 0 0)) (.agg #[.bool true, .slice a3 (sv (ks.drop m)).length c3, .slice a4 (sv (vs.drop m)).length c4, .slice none 0 0]) ⟨true, ks.drop m, vs.drop m, []⟩) := Pv.mk' (X.out.sl hE.out.one L1.out.2.2.1) (X.out.sl hE.out.two L1.out.2.2.2) (Sl.empty _) (fun k hk => by simp at hk)
          generalize ((((((((wp.setCell ⟨w.heap.size + 1, 0, none⟩ (.bool true)).setCell ⟨w.heap.size + 1, 1, none⟩ (.slice a1 (sv (ks.take m)).length c1)).setCell ⟨w.heap.size + 1, 2, none⟩ (.slice a2 (sv (vs.take m)).length c2)).setCell ⟨w.heap.size + 1, 3, none⟩ (.slice none 0 0)).setCell ⟨w.heap.size + 1 + 1, 0, none⟩ (.bool true)).setCell ⟨w.heap.size + 1 + 1, 1, none⟩ (.slice a3 (sv (ks.drop m)).length c3)).setCell ⟨w.heap.size + 1 + 1, 2, none⟩ (.slice a4 (sv (vs.drop m)).length c4)).setCell ⟨w.heap.size + 1 + 1, 3, none⟩ (.slice none 0 0)) = W8 at *
          have B8 : Hid _ := X.out.bel
          obtain ⟨_, ⟨t0, t1, t2, t3⟩, ⟨t4, t5, t6, t7⟩, _, _⟩ := X.out
          have hm := HM.out
          subst hm
          refine bodyPost_ret (v := .tuple #[.agg #[.bool true, .slice a1 (sv (ks.take (mid L))).length c1, .slice a2 (sv (vs.take (mid L))).length c2, .slice none 0 0], .string (kAt ks (mid L)), .agg #[.bool true, .slice a3 (sv (ks.drop (mid L))).length c3, .slice a4 (sv (vs.drop (mid L))).length c4, .slice none 0 0]]) (by simp [results, Try.results85, go_sem, t0, t1, t2, t3, t4, t5, t6, t7]) rfl ?_
          have hL := HSZ.out
          subst hL
          exact ⟨_, _, rfl, P1.out.below (Below.refl _ _).drew, P2.out.below (Below.refl _ _).drew, fun r hr => ⟨Off.mk (fun x hx => by have := L1.out.1 x hx; omega) (fun x hx => by have := L1.out.2.1 x hx; omega) (fun x hx => by cases hx), Off.mk (fun x hx => by have := L1.out.2.2.1 x hx; omega) (fun x hx => by have := L1.out.2.2.2 x hx; omega) (fun x hx => by cases hx)⟩, B8.out.drew⟩


end Go.Proofs.Ythdjghmipepppaa

