/- A branch made anew, with a run in its kid's place. -/
import Derived.Test.YthdjghmipepppaaMr
namespace Go.Proofs.Ythdjghmipepppaa
open Go.RowKit Go.Lib
set_option linter.unusedVariables false
set_option linter.unusedSimpArgs false

theorem good_ps {p : Pg} (g : goodB p = true) : Ps p.kids := fun k hk => by
  obtain ⟨j, hj, rfl⟩ := List.mem_iff_getElem.1 hk
  have := (goodB_parts g).2.2.1
  unfold kidsB at this
  rw [List.all_eq_true] at this
  have q := of_decide_eq_true (this j (List.mem_range.2 hj))
  have e : p.kids.getD j 0 = p.kids[j] := by simp [List.getD, hj]
  omega
/-- A run as two values. -/
structure RunV (w : World) (kk ii : Value) (q : Run) : Prop where
  ky : (q.keys = [] ∧ kk = .slice none 0 0) ∨ (∃ x kb, q.keys = [x] ∧ kk = .slice (some ⟨kb, 0, none⟩) 1 1 ∧ w.heap[kb]? = some (.cells #[.string x] 9 (0, 0)))
  kd : (q.kids = [] ∧ ii = .slice none 0 0) ∨ (∃ b o m c, ii = .slice (some ⟨b, o, none⟩) m c ∧ (m = 1 ∨ m = 2) ∧ q.kids.length = m ∧ Sl w (some ⟨b, o, none⟩) m c (kv q.kids))
  ps : Ps q.kids
  mx : ∀ k ∈ q.kids, k < 18446744073709551616
  eq : q.kids = [] → q.keys = []
theorem RunV.below {w w' : World} {kk ii : Value} {q : Run} (h : RunV w kk ii q) (b : Below w.heap.size w w') : RunV w' kk ii q := by
  refine ⟨h.ky.imp id (fun ⟨x, kb, e1, e2, e3⟩ => ⟨x, kb, e1, e2, ?_⟩), h.kd.imp id (fun ⟨d, o, m, c, e1, e2, e3, e4⟩ => ⟨d, o, m, c, e1, e2, e3, e4.below b⟩), h.ps, h.mx, h.eq⟩
  rw [b.block kb (Array.getElem?_eq_some_iff.1 e3).1]
  exact e3
theorem RunV.ni {w : World} {kk ii : Value} {q : Run} (h : RunV w kk ii q) : ∃ a c, ii = .slice a q.kids.length c := by
  rcases h.kd with ⟨e1, e2⟩ | ⟨b, o, m, c, e1, _, e2, _⟩
  · exact ⟨none, 0, by rw [e1, e2]; rfl⟩
  · exact ⟨_, _, by rw [e2]; exact e1⟩
theorem RunV.nk {w : World} {kk ii : Value} {q : Run} (h : RunV w kk ii q) : ∃ a c, kk = .slice a q.keys.length c := by
  rcases h.ky with ⟨e1, e2⟩ | ⟨x, b, e1, e2, _⟩
  · exact ⟨none, 0, by rw [e1, e2]; rfl⟩
  · exact ⟨_, _, by rw [e1]; exact e2⟩
theorem RunV.old {w : World} {kk ii : Value} {q : Run} (h : RunV w kk ii q) (b : Nat) (hb : ii.ownBlock = some b) : b < w.heap.size := by
  rcases h.kd with ⟨e1, e2⟩ | ⟨d, o, m, c, e1, e2, e3, e4⟩
  · rw [e2] at hb; cases hb
  · rw [e1] at hb
    have e : d = b := by simpa [Value.ownBlock] using hb
    rw [← e]
    exact e4.old (by omega) _ rfl
theorem rv_of {w : World} {kk ii : Value} {q : Run} (h : RunV w kk ii q) (g : Nat) (hb : ∀ b, ii.ownBlock = some b → b ≠ g) : (q.kids = [] ∧ ii = .slice none 0 0) ∨ (q.kids.length = 1 ∧ ∃ vb vo mc, ii = .slice (some ⟨vb, vo, none⟩) 1 mc ∧ Vb w vb vo mc g q.kids) ∨ (q.kids.length = 2 ∧ ∃ vb vo mc, ii = .slice (some ⟨vb, vo, none⟩) 2 mc ∧ Vb w vb vo mc g q.kids) := by
  rcases h.kd with ⟨e1, e2⟩ | ⟨d, o, m, c, e1, e2, e3, e4⟩
  · exact Or.inl ⟨e1, e2⟩
  · have ne : d ≠ g := hb d (by rw [e1]; rfl)
    rcases e2 with rfl | rfl
    · exact Or.inr (Or.inl ⟨e3, d, o, c, e1, ⟨by rw [e3]; exact e4, ne⟩⟩)
    · exact Or.inr (Or.inr ⟨e3, d, o, c, e1, ⟨by rw [e3]; exact e4, ne⟩⟩)
/-- The boxes of with. -/
structure Wb (W : World) (A : Nat) (c0 c1 c2 c3 c4 kk ii : Value) : Prop where
  a1 : W.cell? ⟨A, 1, none⟩ = some c1
  a3 : W.cell? ⟨A, 3, none⟩ = some c3
  a4 : W.cell? ⟨A, 4, none⟩ = some c4
  r0 : W.cell? ⟨A + 1, 0, none⟩ = some kk
  r1 : W.cell? ⟨A + 1, 1, none⟩ = some ii
  z : Bq W (A + 2) (.bool false) (.slice none 0 0) (.slice none 0 0) (.slice none 0 0)
theorem Wb.new (w : World) (c0 c1 c2 c3 c4 kk ii : Value) (t t1 t2 : TypeId) : Wb (((w.alloc (.cells #[c0, c1, c2, c3, c4] t)).alloc (.cells #[kk, ii] t1)).alloc (.cells #[.bool false, .slice none 0 0, .slice none 0 0, .slice none 0 0] t2)) w.heap.size c0 c1 c2 c3 c4 kk ii := by
  have e1 : (w.alloc (.cells #[c0, c1, c2, c3, c4] t)).heap.size = w.heap.size + 1 := by simp
  have f0 : ∀ j, (w.alloc (.cells #[c0, c1, c2, c3, c4] t)).cell? ⟨w.heap.size, j, none⟩ = #[c0, c1, c2, c3, c4][j]? := fun j => cell_alloc_new w _ t j
  have f1 : ∀ j, ((w.alloc (.cells #[c0, c1, c2, c3, c4] t)).alloc (.cells #[kk, ii] t1)).cell? ⟨w.heap.size + 1, j, none⟩ = #[kk, ii][j]? := fun j => by
    rw [← e1]; exact cell_alloc_new _ _ t1 j
  refine ⟨cell?_alloc_some _ (cell?_alloc_some _ (f0 1)), cell?_alloc_some _ (cell?_alloc_some _ (f0 3)), cell?_alloc_some _ (cell?_alloc_some _ (f0 4)), cell?_alloc_some _ (f1 0), cell?_alloc_some _ (f1 1), ?_⟩
  have := Bq.new ((w.alloc (.cells #[c0, c1, c2, c3, c4] t)).alloc (.cells #[kk, ii] t1)) (.bool false) (.slice none 0 0) (.slice none 0 0) (.slice none 0 0) t2
  simpa using this
theorem Wb.below {W W' : World} {A : Nat} {c0 c1 c2 c3 c4 kk ii : Value} (h : Wb W A c0 c1 c2 c3 c4 kk ii) (b : Below W.heap.size W W') : Wb W' A c0 c1 c2 c3 c4 kk ii := by
  have k : ∀ {x : Addr} {u : Value}, W.cell? x = some u → W'.cell? x = some u := fun {x u} hx => (World.cell?_of_block (w := W) (b.block x.block (World.block_lt_of_cell? _ _ hx))).trans hx
  exact ⟨k h.a1, k h.a3, k h.a4, k h.r0, k h.r1, h.z.below b⟩
theorem belowG {w w1 w2 : World} {o : Option Nat} (h : Below w.heap.size w w1) (g : w1.grownBy w2 o) (hb : ∀ k, o = some k → w.heap.size ≤ k) : Below w.heap.size w w2 := h.grown g h.size hb

set_option maxRecDepth 100000 in
set_option maxHeartbeats 8000000 in
theorem with_any (x : V4) (i : Nat) (p : Pg) (kk ii : Value) (q : Run) (w : World) (h : Pv w x.agg p) (hi : i < p.kids.length) (g : goodB p = true) (hl : p.leaf = false) (hk1 : 1 ≤ p.keys.length) (hk2 : p.keys.length ≤ 127) (r : RunV w kk ii q) :
    Calls Try.prog 61 #[.agg #[.bool x.lf, .slice x.ka x.kn x.kc, .slice x.va x.vn x.vc, .slice x.ia x.im x.ic, .int .i64 (i : Nat)], .agg #[kk, ii]] w fun e w' => NewP w w' e (withR p i q) := by
  obtain ⟨qk, qi⟩ := q
  obtain ⟨lf, ka, kn, kc, va, vn, vc, ia, im, ic⟩ := x
  obtain ⟨e0, h1, h2, h3⟩ := Pv.parts (l := lf) (a := ka) (m := kn) (c := kc) (d := va) (n := vn) (f := vc) (g := ia) (o := im) (h := ic) (p := p) h
  rw [hl] at e0
  subst e0
  obtain ⟨gv, gk⟩ := goodB_branch g hl
  have l1 := h1.slen
  have l3 := h3.klen
  obtain ⟨kb, ko, rfl, _⟩ := h1.at (by omega)
  obtain ⟨ib, io, rfl, _⟩ := h3.at (by omega)
  simp only
  have n1 : 1 ≤ kn := by omega
  have n2 : kn ≤ 127 := by omega
  have n3 : Hid (im = kn + 1) := (by omega : im = kn + 1)
  have n4 : i < im := by omega
  have n5 : im ≤ 128 := by omega
  have hw1 : IntKind.i64.wrap ((i : Int) + 1) = (i : Int) + 1 := by rw [IntKind.wrap_i64]; omega
  have H1 : Hid _ := h1
  have H3 : Hid _ := h3
  have RV : Hid _ := r
  have L1 : Hid _ := l1
  have L3 : Hid _ := l3
  have KM : Hid _ := h.kid
  have KP : Hid (Ps p.kids) := good_ps g
  have WE : Hid (withR p i ⟨qk, qi⟩ = ⟨false, if 0 < qi.length then p.keys.take i ++ qk ++ p.keys.drop i else if 0 < p.keys.length then delAt p.keys (i - 1) else p.keys, [], p.kids.take i ++ qi ++ p.kids.drop (i + 1)⟩) := rfl
  have wx : Hid _ := Wb.new w (.bool false) (.slice (some ⟨kb, ko, none⟩) kn kc) (.slice va vn vc) (.slice (some ⟨ib, io, none⟩) im ic) (.int .i64 (i : Nat)) kk ii 119 113 54
  obtain ⟨ri, rc, ei⟩ := r.ni
  obtain ⟨rk, rkc, ek⟩ := r.nk
  clear h h1 h2 h3 r l1 l3 g gv gk hk1 hk2 hi hl
  simp only at ei ek
  subst ei ek
  go_enter Try.func61, Try.ntmps61
  go_upto_region 1 with fail
  have b0 : Hid (Below w.heap.size w (((w.alloc (.cells #[.bool false, .slice (some ⟨kb, ko, none⟩) kn kc, .slice va vn vc, .slice (some ⟨ib, io, none⟩) im ic, .int .i64 (i : Nat)] 119)).alloc (.cells #[.slice rk qk.length rkc, .slice ri qi.length rc] 113)).alloc (.cells #[.bool false, .slice none 0 0, .slice none 0 0, .slice none 0 0] 54))) := nextB (nextB (allocB w _) (allocB _ _)) (allocB _ _)
  have z0 : Hid ((((w.alloc (.cells #[.bool false, .slice (some ⟨kb, ko, none⟩) kn kc, .slice va vn vc, .slice (some ⟨ib, io, none⟩) im ic, .int .i64 (i : Nat)] 119)).alloc (.cells #[.slice rk qk.length rkc, .slice ri qi.length rc] 113)).alloc (.cells #[.bool false, .slice none 0 0, .slice none 0 0, .slice none 0 0] 54)).heap.size = w.heap.size + 3) := (by simp : (((w.alloc (.cells #[.bool false, .slice (some ⟨kb, ko, none⟩) kn kc, .slice va vn vc, .slice (some ⟨ib, io, none⟩) im ic, .int .i64 (i : Nat)] 119)).alloc (.cells #[.slice rk qk.length rkc, .slice ri qi.length rc] 113)).alloc (.cells #[.bool false, .slice none 0 0, .slice none 0 0, .slice none 0 0] 54)).heap.size = w.heap.size + 3)
  generalize ((w.alloc (.cells #[.bool false, .slice (some ⟨kb, ko, none⟩) kn kc, .slice va vn vc, .slice (some ⟨ib, io, none⟩) im ic, .int .i64 (i : Nat)] 119)).alloc (.cells #[.slice rk qk.length rkc, .slice ri qi.length rc] 113)).alloc (.cells #[.bool false, .slice none 0 0, .slice none 0 0, .slice none 0 0] 54) = w0 at *
  refine wp_region_held_drew (S := (fun W => W.cell? ⟨w.heap.size, 1, none⟩ = some (.slice (some ⟨kb, ko, none⟩) kn kc) ∧ W.cell? ⟨w.heap.size, 4, none⟩ = some (.int .i64 (i : Nat)))) (by kernel_rfl) ⟨(wx.out.below (Below.refl w0.heap.size w0).drew).a1, (wx.out.below (Below.refl w0.heap.size w0).drew).a4⟩ (fun hHeld => ?_)
  have b1 : Hid (Below w0.heap.size w0 w0.drew) := (Below.refl w0.heap.size w0).drew
  generalize w0.drew = w1 at *
  refine take2 rfl (i := 0) (v := (.pointer (some ⟨w.heap.size, 0, none⟩))) (d := 8) rfl rfl (by kernel_rfl) (by kernel_rfl) (by kernel_rfl) (fun _ _ _ h => h) (Or.inl ⟨by rfl, ?_⟩) hHeld ?_
  · (intro W hW; (try dsimp only at hW); go_simp)
  try simp only [Act.put, List.setIfInBounds_toArray, List.set_cons_zero, List.set_cons_succ]
  refine take2 rfl (i := 1) (v := (.pointer (some ⟨w.heap.size, 1, none⟩))) (d := 9) rfl rfl (by kernel_rfl) (by kernel_rfl) (by kernel_rfl) (fun _ _ _ h => h) (Or.inl ⟨by rfl, ?_⟩) hHeld ?_
  · (intro W hW; (try dsimp only at hW); go_simp)
  try simp only [Act.put, List.setIfInBounds_toArray, List.set_cons_zero, List.set_cons_succ]
  refine take2 rfl (i := 2) (v := (.slice (some ⟨kb, ko, none⟩) kn kc)) (d := 10) rfl rfl (by kernel_rfl) (by kernel_rfl) (by kernel_rfl) (fun _ _ _ h => h) (Or.inl ⟨by rfl, ?_⟩) hHeld ?_
  · (intro W hW; (try dsimp only at hW); go_simp)
  try simp only [Act.put, List.setIfInBounds_toArray, List.set_cons_zero, List.set_cons_succ]
  refine take2 rfl (i := 4) (v := (.pointer (some ⟨w.heap.size, 4, none⟩))) (d := 12) rfl rfl (by kernel_rfl) (by kernel_rfl) (by kernel_rfl) (fun _ _ _ h => h) (Or.inl ⟨by rfl, ?_⟩) hHeld ?_
  · (intro W hW; (try dsimp only at hW); go_simp)
  try simp only [Act.put, List.setIfInBounds_toArray, List.set_cons_zero, List.set_cons_succ]
  refine take2 rfl (i := 5) (v := (.int .i64 (i : Nat))) (d := 13) rfl rfl (by kernel_rfl) (by kernel_rfl) (by kernel_rfl) (fun _ _ _ h => h) (Or.inl ⟨by rfl, ?_⟩) hHeld ?_
  · (intro W hW; (try dsimp only at hW); go_simp)
  try simp only [Act.put, List.setIfInBounds_toArray, List.set_cons_zero, List.set_cons_succ]
  refine wpAnyH_ready (rs := [3]) (by kernel_rfl) (by simp) ?_
  refine cons2 rfl rfl (fun K9 hK => ?_)
  go_simp
  go_at_call 63
  refine Calls.mono (cloneS_any _ kn kc _ w1 ((H1.out.below b0.out).below b1.out) (by omega)) ?_
  rintro e w2 ⟨⟨v5, rfl, o5'⟩, b2'⟩
  have o5 : Hid _ := o5'
  have b2 : Hid _ := nextB b1.out b2'
  have sz2 : Hid (w0.heap.size ≤ w1.heap.size) := b1.out.size
  clear o5' b2'
  go_wp2_with fail
  refine hK.out _ _ ⟨(wx.out.below b2.out).a1, (wx.out.below b2.out).a4⟩ (fun hX => ?_)
  clear hK K9 hHeld
  have hHeld := hX
  clear hX
  try simp only [Act.put, List.setIfInBounds_toArray, List.set_cons_zero, List.set_cons_succ]
  refine take2 rfl (i := 6) (v := v5) (d := 5) rfl rfl (by kernel_rfl) (by kernel_rfl) (by kernel_rfl) (fun _ _ _ h => h) (Or.inl ⟨by rfl, ?_⟩) hHeld ?_
  · (intro W hW; (try dsimp only at hW); go_simp)
  try simp only [Act.put, List.setIfInBounds_toArray, List.set_cons_zero, List.set_cons_succ]
  refine take2 rfl (i := 7) (v := (.int .i64 (i : Nat))) (d := 6) rfl rfl (by kernel_rfl) (by kernel_rfl) (by kernel_rfl) (fun _ _ _ h => h) (Or.inl ⟨by rfl, ?_⟩) hHeld ?_
  · (intro W hW; (try dsimp only at hW); go_simp)
  try simp only [Act.put, List.setIfInBounds_toArray, List.set_cons_zero, List.set_cons_succ]
  refine wpAnyH_done (by kernel_rfl) ?_ _
  obtain ⟨a5, c5, e5, s5', q5', _⟩ := o5.out.sl
  rw [sv_len, L1.out] at e5 s5'
  subst e5
  have s5 : Hid _ := s5'
  have q5 : Hid _ := q5'
  clear s5' q5'
  have bz : Hid (w.heap.size + 3 ≤ w1.heap.size) := (by have := z0.out; have := b1.out.size; omega : w.heap.size + 3 ≤ w1.heap.size)
  have ob5 : Hid (∀ k, (Value.slice a5 kn c5).ownBlock = some k → w0.heap.size ≤ k) := fun k hk => Nat.le_trans b1.out.size (o5.out.row.lt k hk).1
  obtain ⟨gn, hgn⟩ : ∃ gn : Nat, gn = i - 1 := ⟨_, rfl⟩
  rcases RV.out.kd with hd | hd
  · obtain ⟨qe, ie⟩ := hd
    simp only at qe
    subst qe
    have ke := RV.out.eq rfl
    simp only at ke
    subst ke
    simp only [List.length_nil] at ie
    injection ie with ie1 ie2 ie3
    subst ie1 ie3
    have M2 := wx.out.below b2.out
    have r1 := M2.r1
    simp only [List.length_nil] at r1
    have n6 : (1 : Int) ≤ (kn : Int) := by omega
    have hmx : max ((i : Int) - 1) 0 = (gn : Int) := by omega
    obtain ⟨m7, hm7⟩ : ∃ m7, m7 = p.keys.length - 1 := ⟨_, rfl⟩
    have KD := Delete_any (.slice a5 kn c5) p.keys gn w1.heap.size w2 o5.out (by rw [L1.out]; have := n3.out; omega) (by rw [L1.out]; omega)
    rw [← hm7, show ((gn + 1 : Nat) : Int) = (gn : Int) + 1 by omega] at KD
    have KDH : Hid _ := KD
    have GN : Hid _ := hgn
    clear M2 KD hm7 hgn
    go_wp2_with fail
    refine Calls.mono KDH.out ?_
    rintro e w3 X3'
    obtain ⟨a7, c7, rfl, s7', _⟩ := X3'.ex
    have g3' := X3'.gr
    have s7 : Hid _ := s7'
    have w3b : Hid _ := belowG (w := w0) b2.out g3' ob5.out
    have b3 : Hid _ := w3b.out
    clear w3b
    clear X3' s7' g3' KDH r1
    have M3 : Hid _ := wx.out.below b3.out
    have hz3 : Hid _ := s7
    go_upto_region 7 with fail
    refine wp_region_held_drew (S := (fun W => W.cell? ⟨w.heap.size, 3, none⟩ = some (.slice (some ⟨ib, io, none⟩) im ic) ∧ W.cell? ⟨w.heap.size + 1, 1, none⟩ = some (.slice none 0 0))) (by kernel_rfl) ⟨(M3.out.below (Below.refl w3.heap.size w3).drew).a3, (M3.out.below (Below.refl w3.heap.size w3).drew).r1⟩ (fun hHeld => ?_)
    have b4 : Hid (Below w3.heap.size w3 w3.drew) := (Below.refl w3.heap.size w3).drew
    generalize w3.drew = w4 at *
    refine take2 rfl (i := 0) (v := (.slice a7 m7 c7)) (d := 34) rfl rfl (by kernel_rfl) (by kernel_rfl) (by kernel_rfl) (fun _ _ _ h => h) (Or.inl ⟨by rfl, ?_⟩) hHeld ?_
    · (intro W hW; (try dsimp only at hW); go_simp)
    try simp only [Act.put, List.setIfInBounds_toArray, List.set_cons_zero, List.set_cons_succ]
    refine take2 rfl (i := 1) (v := (.pointer (some ⟨w.heap.size, 0, none⟩))) (d := 35) rfl rfl (by kernel_rfl) (by kernel_rfl) (by kernel_rfl) (fun _ _ _ h => h) (Or.inl ⟨by rfl, ?_⟩) hHeld ?_
    · (intro W hW; (try dsimp only at hW); go_simp)
    try simp only [Act.put, List.setIfInBounds_toArray, List.set_cons_zero, List.set_cons_succ]
    refine take2 rfl (i := 2) (v := (.pointer (some ⟨w.heap.size, 3, none⟩))) (d := 36) rfl rfl (by kernel_rfl) (by kernel_rfl) (by kernel_rfl) (fun _ _ _ h => h) (Or.inl ⟨by rfl, ?_⟩) hHeld ?_
    · (intro W hW; (try dsimp only at hW); go_simp)
    try simp only [Act.put, List.setIfInBounds_toArray, List.set_cons_zero, List.set_cons_succ]
    refine take2 rfl (i := 3) (v := (.slice (some ⟨ib, io, none⟩) im ic)) (d := 37) rfl rfl (by kernel_rfl) (by kernel_rfl) (by kernel_rfl) (fun _ _ _ h => h) (Or.inl ⟨by rfl, ?_⟩) hHeld ?_
    · (intro W hW; (try dsimp only at hW); go_simp)
    try simp only [Act.put, List.setIfInBounds_toArray, List.set_cons_zero, List.set_cons_succ]
    refine take2 rfl (i := 5) (v := (.int .i64 (i : Nat))) (d := 39) rfl rfl (by kernel_rfl) (by kernel_rfl) (by kernel_rfl) (fun _ _ _ h => h) (Or.inl ⟨by rfl, ?_⟩) hHeld ?_
    · (intro W hW; (try dsimp only at hW); go_simp)
    try simp only [Act.put, List.setIfInBounds_toArray, List.set_cons_zero, List.set_cons_succ]
    refine take2 rfl (i := 6) (v := (.int .i64 (i : Nat))) (d := 40) rfl rfl (by kernel_rfl) (by kernel_rfl) (by kernel_rfl) (fun _ _ _ h => h) (Or.inl ⟨by rfl, ?_⟩) hHeld ?_
    · (intro W hW; (try dsimp only at hW); go_simp)
    try simp only [Act.put, List.setIfInBounds_toArray, List.set_cons_zero, List.set_cons_succ]
    refine take2 rfl (i := 7) (v := (.int .i64 ((i : Int) + 1))) (d := 41) rfl rfl (by kernel_rfl) (by kernel_rfl) (by kernel_rfl) (fun _ _ _ h => h) (Or.inl ⟨by rfl, ?_⟩) hHeld ?_
    · (intro W hW; (try dsimp only at hW); go_simp)
    try simp only [Act.put, List.setIfInBounds_toArray, List.set_cons_zero, List.set_cons_succ]
    refine take2 rfl (i := 8) (v := (.pointer (some ⟨w.heap.size + 1, 1, none⟩))) (d := 42) rfl rfl (by kernel_rfl) (by kernel_rfl) (by kernel_rfl) (fun _ _ _ h => h) (Or.inl ⟨by rfl, ?_⟩) hHeld ?_
    · (intro W hW; (try dsimp only at hW); go_simp)
    try simp only [Act.put, List.setIfInBounds_toArray, List.set_cons_zero, List.set_cons_succ]
    refine take2 rfl (i := 9) (v := (.slice none 0 0)) (d := 43) rfl rfl (by kernel_rfl) (by kernel_rfl) (by kernel_rfl) (fun _ _ _ h => h) (Or.inl ⟨by rfl, ?_⟩) hHeld ?_
    · (intro W hW; (try dsimp only at hW); go_simp)
    try simp only [Act.put, List.setIfInBounds_toArray, List.set_cons_zero, List.set_cons_succ]
    refine wpAnyH_ready (rs := [4]) (by kernel_rfl) (by simp) ?_
    refine cons2 rfl rfl (fun K9 hK => ?_)
    go_simp
    go_at_call 82
    refine Calls.mono (cloneU_any _ im ic _ w4 (((H3.out.below b0.out).below b3.out).below b4.out) (by omega)) ?_
    rintro e w5 ⟨⟨v8, rfl, o8'⟩, b5'⟩
    obtain ⟨a8, c8, e8, _, _, f8⟩ := o8'.sl
    rw [kv_len, L3.out] at e8
    subst e8
    obtain ⟨g8, rfl⟩ : ∃ g8, a8 = some ⟨g8, 0, none⟩ := by
      rcases f8 with q | q
      · rw [q] at o8'
        have := o8'.row.1
        rw [kv_len, L3.out] at this
        rcases o8'.row.2 with ⟨_, h0⟩ | ⟨g', _, _, hv, _⟩
        · rw [kv_len, L3.out] at h0; omega
        · cases hv
      · exact q
    have o8 : Hid _ := o8'
    have g8l : Hid (w4.heap.size ≤ g8) := (o8'.row.lt g8 rfl).1
    have b5 : Hid _ := b5'
    have M5 : Hid _ := (M3.out.below b4.out).below b5.out
    clear o8' b5' f8
    go_wp2_with fail
    refine hK.out _ _ ⟨M5.out.a3, M5.out.r1⟩ (fun hX => ?_)
    clear hK K9 hHeld
    have hHeld := hX
    clear hX
    try simp only [Act.put, List.setIfInBounds_toArray, List.set_cons_zero, List.set_cons_succ]
    have RV5 : Hid _ := (((RV.out.below b0.out).below b3.out).below b4.out).below b5.out
    have VV : Hid _ := rv_of RV5.out g8 (fun b hb => by have := RV.out.old b hb; have := b0.out.size; have := b3.out.size; have := b4.out.size; have := g8l.out; omega)
    refine wpAnyH_ready (rs := [10]) (by kernel_rfl) (by simp) ?_
    refine cons2 rfl rfl (fun K9 hK => ?_)
    go_simp
    go_at_call 81
    refine Calls.mono (Replace_any g8 c8 im i w4.heap.size p.kids ([] : List Nat) _ w5 o8.out (by omega) n4 b5.out.size VV.out) ?_
    rintro e w6 ⟨⟨a9, m9, c9, rfl, s9'⟩, g9'⟩
    have s9 : Hid _ := s9'
    have b6 : Hid _ := belowG (w := w4) b5.out g9' (fun k hk => by have := Option.some.inj hk; have := g8l.out; omega)
    have M6 : Hid _ := (M3.out.below b4.out).below b6.out
    clear s9' g9'
    go_wp2_with fail
    refine hK.out _ _ ⟨M6.out.a3, M6.out.r1⟩ (fun hX => ?_)
    clear hK K9 hHeld
    have hHeld := hX
    clear hX
    try simp only [Act.put, List.setIfInBounds_toArray, List.set_cons_zero, List.set_cons_succ]
    refine take2 rfl (i := 11) (v := (.agg #[.bool false, .slice a7 m7 c7, .slice none 0 0, .slice a9 m9 c9])) (d := 45) rfl rfl (by kernel_rfl) (by kernel_rfl) (by kernel_rfl) (fun _ _ _ h => h) (Or.inl ⟨by rfl, ?_⟩) hHeld ?_
    · (intro W hW; (try dsimp only at hW); go_simp)
    try simp only [Act.put, List.setIfInBounds_toArray, List.set_cons_zero, List.set_cons_succ]
    have b36 : Hid _ := nextB b4.out b6.out
    have PQ : Hid (Pv w6 (.agg #[.bool false, .slice a7 m7 c7, .slice none 0 0, .slice a9 m9 c9]) ⟨false, delAt p.keys gn, [], p.kids.take i ++ ([] : List Nat) ++ p.kids.drop (i + 1)⟩) := Pv.mk' (hz3.out.below b36.out) (Sl.empty _) s9.out (fun k hk => by
      rcases List.mem_append.1 hk with hk | hk
      · rcases List.mem_append.1 hk with hk | hk
        · exact KM.out k (List.mem_of_mem_take hk)
        · exact RV.out.mx k hk
      · exact KM.out k (List.mem_of_mem_drop hk))
    have PP : Hid (Ps (p.kids.take i ++ ([] : List Nat) ++ p.kids.drop (i + 1))) := fun k hk => by
      rcases List.mem_append.1 hk with hk | hk
      · rcases List.mem_append.1 hk with hk | hk
        · exact KP.out k (List.mem_of_mem_take hk)
        · exact RV.out.ps k hk
      · exact KP.out k (List.mem_of_mem_drop hk)
    have X : Hid _ := M6.out.z.put (.bool false) (.slice a7 m7 c7) (.slice none 0 0) (.slice a9 m9 c9)
    have NB : Hid _ := M6.out.z.nt (nt_bool _) (nt_slice _ _ _) (nt_slice _ _ _) (nt_slice _ _ _)
    have PF : Hid _ := PQ.out.gw PP.out (Gw.of_grown X.out.2) NB.out (fun b hb => by cases hb)
    have BF : Hid _ := belowG (w := w) (nextB b0.out (nextB b3.out b36.out)) X.out.2 (fun k hk => by have := Option.some.inj hk; omega)
    have X3 : Hid _ := X.out.2
    have e2 : w.heap.size + 1 + 1 = w.heap.size + 2 := rfl
    obtain ⟨u0, u1, u2, u3⟩ := M6.out.z.b4
    have uz := M6.out.z.fz
    unfold st4 at X PF BF X3
    refine wpAnyH_ready (rs := [12]) (by kernel_rfl) (by simp) ?_
    refine cons2 rfl rfl (fun K9 hK => ?_)
    go_simp
    have k1 : ∀ j u, w6.cell? ⟨w.heap.size, j, none⟩ = some u → _ := fun j u hu => (World.cell?_of_block (w := w6) (a := ⟨w.heap.size, j, none⟩) (X3.out.block w.heap.size (World.block_lt_of_cell? _ _ hu) (fun e => by have := Option.some.inj e; omega))).trans hu
    have k2 : ∀ j u, w6.cell? ⟨w.heap.size + 1, j, none⟩ = some u → _ := fun j u hu => (World.cell?_of_block (w := w6) (a := ⟨w.heap.size + 1, j, none⟩) (X3.out.block (w.heap.size + 1) (World.block_lt_of_cell? _ _ hu) (fun e => by have := Option.some.inj e; omega))).trans hu
    refine hK.out _ _ ⟨k1 3 _ M6.out.a3, k2 1 _ M6.out.r1⟩ (fun hX => ?_)
    clear hK K9 hHeld hX k1 k2 u0 u1 u2 u3 uz
    try simp only [Act.put, List.setIfInBounds_toArray, List.set_cons_zero, List.set_cons_succ]
    refine wpAnyH_done (by kernel_rfl) ?_ _
    generalize (((w6.setCell ⟨w.heap.size + 2, 0, none⟩ (.bool false)).setCell ⟨w.heap.size + 2, 1, none⟩ (.slice a7 m7 c7)).setCell ⟨w.heap.size + 2, 2, none⟩ (.slice none 0 0)).setCell ⟨w.heap.size + 2, 3, none⟩ (.slice a9 m9 c9) = w7 at *
    obtain ⟨t0, t1, t2, t3⟩ := X.out.1.b4
    go_wp2
    rw [WE.out]
    refine bodyPost_ret (v := .agg #[.bool false, .slice a7 m7 c7, .slice none 0 0, .slice a9 m9 c9]) (by simp [results, Try.results61, go_sem, t0, t1, t2, t3]) rfl ⟨⟨_, rfl, ?_⟩, BF.out⟩
    have ek : (if 0 < ([] : List Nat).length then p.keys.take i ++ [] ++ p.keys.drop i else if 0 < p.keys.length then delAt p.keys (i - 1) else p.keys) = delAt p.keys gn := by
      rw [if_neg (by simp), if_pos (by rw [L1.out]; omega), GN.out]
    rw [ek]
    exact PF.out
  · have ql : 0 < qi.length := by
      obtain ⟨_, _, m, _, _, hm, he, _⟩ := hd
      simp only at he
      omega
    have QL : Hid _ := ql
    have ql' : (0 : Int) < (qi.length : Int) := by omega
    clear hd ql hgn
    rcases RV.out.ky with hk | hk
    · obtain ⟨re, ke⟩ := hk
      simp only at re
      subst re
      simp only [List.length_nil] at ke
      injection ke with ke1 ke2 ke3
      subst ke1 ke3
      have KI : Hid _ := Insert_none (.slice a5 kn c5) p.keys i w1.heap.size w2 o5.out (by rw [L1.out]; have := n3.out; omega) (by rw [L1.out]; omega)
      have M2 := wx.out.below b2.out
      have r1 := M2.r1
      have r0 := M2.r0
      simp only [List.length_nil] at r0
      clear M2
      go_wp2_with fail
      refine Calls.mono KI.out ?_
      rintro e w3 ⟨rfl, b3'⟩
      have b3 : Hid _ := nextB b2.out b3'
      have s7 : Hid _ := s5.out.below b3'
      clear b3' KI r1 r0
      obtain ⟨a7, ha7⟩ : ∃ a7, a7 = a5 := ⟨_, rfl⟩
      obtain ⟨m7, hm7⟩ : ∃ m7, m7 = kn := ⟨_, rfl⟩
      obtain ⟨c7, hc7⟩ : ∃ c7, c7 = c5 := ⟨_, rfl⟩
      rw [← ha7, ← hm7, ← hc7]
      rw [← ha7, ← hm7, ← hc7] at s7
      clear ha7 hc7
      have HM : Hid _ := hm7
      clear hm7
      have M3 : Hid _ := wx.out.below b3.out
      have hz3 : Hid _ := s7
      go_upto_region 7 with fail
      refine wp_region_held_drew (S := (fun W => W.cell? ⟨w.heap.size, 3, none⟩ = some (.slice (some ⟨ib, io, none⟩) im ic) ∧ W.cell? ⟨w.heap.size + 1, 1, none⟩ = some (.slice ri qi.length rc))) (by kernel_rfl) ⟨(M3.out.below (Below.refl w3.heap.size w3).drew).a3, (M3.out.below (Below.refl w3.heap.size w3).drew).r1⟩ (fun hHeld => ?_)
      have b4 : Hid (Below w3.heap.size w3 w3.drew) := (Below.refl w3.heap.size w3).drew
      generalize w3.drew = w4 at *
      refine take2 rfl (i := 0) (v := (.slice a7 m7 c7)) (d := 34) rfl rfl (by kernel_rfl) (by kernel_rfl) (by kernel_rfl) (fun _ _ _ h => h) (Or.inl ⟨by rfl, ?_⟩) hHeld ?_
      · (intro W hW; (try dsimp only at hW); go_simp)
      try simp only [Act.put, List.setIfInBounds_toArray, List.set_cons_zero, List.set_cons_succ]
      refine take2 rfl (i := 1) (v := (.pointer (some ⟨w.heap.size, 0, none⟩))) (d := 35) rfl rfl (by kernel_rfl) (by kernel_rfl) (by kernel_rfl) (fun _ _ _ h => h) (Or.inl ⟨by rfl, ?_⟩) hHeld ?_
      · (intro W hW; (try dsimp only at hW); go_simp)
      try simp only [Act.put, List.setIfInBounds_toArray, List.set_cons_zero, List.set_cons_succ]
      refine take2 rfl (i := 2) (v := (.pointer (some ⟨w.heap.size, 3, none⟩))) (d := 36) rfl rfl (by kernel_rfl) (by kernel_rfl) (by kernel_rfl) (fun _ _ _ h => h) (Or.inl ⟨by rfl, ?_⟩) hHeld ?_
      · (intro W hW; (try dsimp only at hW); go_simp)
      try simp only [Act.put, List.setIfInBounds_toArray, List.set_cons_zero, List.set_cons_succ]
      refine take2 rfl (i := 3) (v := (.slice (some ⟨ib, io, none⟩) im ic)) (d := 37) rfl rfl (by kernel_rfl) (by kernel_rfl) (by kernel_rfl) (fun _ _ _ h => h) (Or.inl ⟨by rfl, ?_⟩) hHeld ?_
      · (intro W hW; (try dsimp only at hW); go_simp)
      try simp only [Act.put, List.setIfInBounds_toArray, List.set_cons_zero, List.set_cons_succ]
      refine take2 rfl (i := 5) (v := (.int .i64 (i : Nat))) (d := 39) rfl rfl (by kernel_rfl) (by kernel_rfl) (by kernel_rfl) (fun _ _ _ h => h) (Or.inl ⟨by rfl, ?_⟩) hHeld ?_
      · (intro W hW; (try dsimp only at hW); go_simp)
      try simp only [Act.put, List.setIfInBounds_toArray, List.set_cons_zero, List.set_cons_succ]
      refine take2 rfl (i := 6) (v := (.int .i64 (i : Nat))) (d := 40) rfl rfl (by kernel_rfl) (by kernel_rfl) (by kernel_rfl) (fun _ _ _ h => h) (Or.inl ⟨by rfl, ?_⟩) hHeld ?_
      · (intro W hW; (try dsimp only at hW); go_simp)
      try simp only [Act.put, List.setIfInBounds_toArray, List.set_cons_zero, List.set_cons_succ]
      refine take2 rfl (i := 7) (v := (.int .i64 ((i : Int) + 1))) (d := 41) rfl rfl (by kernel_rfl) (by kernel_rfl) (by kernel_rfl) (fun _ _ _ h => h) (Or.inl ⟨by rfl, ?_⟩) hHeld ?_
      · (intro W hW; (try dsimp only at hW); go_simp)
      try simp only [Act.put, List.setIfInBounds_toArray, List.set_cons_zero, List.set_cons_succ]
      refine take2 rfl (i := 8) (v := (.pointer (some ⟨w.heap.size + 1, 1, none⟩))) (d := 42) rfl rfl (by kernel_rfl) (by kernel_rfl) (by kernel_rfl) (fun _ _ _ h => h) (Or.inl ⟨by rfl, ?_⟩) hHeld ?_
      · (intro W hW; (try dsimp only at hW); go_simp)
      try simp only [Act.put, List.setIfInBounds_toArray, List.set_cons_zero, List.set_cons_succ]
      refine take2 rfl (i := 9) (v := (.slice ri qi.length rc)) (d := 43) rfl rfl (by kernel_rfl) (by kernel_rfl) (by kernel_rfl) (fun _ _ _ h => h) (Or.inl ⟨by rfl, ?_⟩) hHeld ?_
      · (intro W hW; (try dsimp only at hW); go_simp)
      try simp only [Act.put, List.setIfInBounds_toArray, List.set_cons_zero, List.set_cons_succ]
      refine wpAnyH_ready (rs := [4]) (by kernel_rfl) (by simp) ?_
      refine cons2 rfl rfl (fun K9 hK => ?_)
      go_simp
      go_at_call 82
      refine Calls.mono (cloneU_any _ im ic _ w4 (((H3.out.below b0.out).below b3.out).below b4.out) (by omega)) ?_
      rintro e w5 ⟨⟨v8, rfl, o8'⟩, b5'⟩
      obtain ⟨a8, c8, e8, _, _, f8⟩ := o8'.sl
      rw [kv_len, L3.out] at e8
      subst e8
      obtain ⟨g8, rfl⟩ : ∃ g8, a8 = some ⟨g8, 0, none⟩ := by
        rcases f8 with q | q
        · rw [q] at o8'
          have := o8'.row.1
          rw [kv_len, L3.out] at this
          rcases o8'.row.2 with ⟨_, h0⟩ | ⟨g', _, _, hv, _⟩
          · rw [kv_len, L3.out] at h0; omega
          · cases hv
        · exact q
      have o8 : Hid _ := o8'
      have g8l : Hid (w4.heap.size ≤ g8) := (o8'.row.lt g8 rfl).1
      have b5 : Hid _ := b5'
      have M5 : Hid _ := (M3.out.below b4.out).below b5.out
      clear o8' b5' f8
      go_wp2_with fail
      refine hK.out _ _ ⟨M5.out.a3, M5.out.r1⟩ (fun hX => ?_)
      clear hK K9 hHeld
      have hHeld := hX
      clear hX
      try simp only [Act.put, List.setIfInBounds_toArray, List.set_cons_zero, List.set_cons_succ]
      have RV5 : Hid _ := (((RV.out.below b0.out).below b3.out).below b4.out).below b5.out
      have VV : Hid _ := rv_of RV5.out g8 (fun b hb => by have := RV.out.old b hb; have := b0.out.size; have := b3.out.size; have := b4.out.size; have := g8l.out; omega)
      refine wpAnyH_ready (rs := [10]) (by kernel_rfl) (by simp) ?_
      refine cons2 rfl rfl (fun K9 hK => ?_)
      go_simp
      go_at_call 81
      refine Calls.mono (Replace_any g8 c8 im i w4.heap.size p.kids qi _ w5 o8.out (by omega) n4 b5.out.size VV.out) ?_
      rintro e w6 ⟨⟨a9, m9, c9, rfl, s9'⟩, g9'⟩
      have s9 : Hid _ := s9'
      have b6 : Hid _ := belowG (w := w4) b5.out g9' (fun k hk => by have := Option.some.inj hk; have := g8l.out; omega)
      have M6 : Hid _ := (M3.out.below b4.out).below b6.out
      clear s9' g9'
      go_wp2_with fail
      refine hK.out _ _ ⟨M6.out.a3, M6.out.r1⟩ (fun hX => ?_)
      clear hK K9 hHeld
      have hHeld := hX
      clear hX
      try simp only [Act.put, List.setIfInBounds_toArray, List.set_cons_zero, List.set_cons_succ]
      refine take2 rfl (i := 11) (v := (.agg #[.bool false, .slice a7 m7 c7, .slice none 0 0, .slice a9 m9 c9])) (d := 45) rfl rfl (by kernel_rfl) (by kernel_rfl) (by kernel_rfl) (fun _ _ _ h => h) (Or.inl ⟨by rfl, ?_⟩) hHeld ?_
      · (intro W hW; (try dsimp only at hW); go_simp)
      try simp only [Act.put, List.setIfInBounds_toArray, List.set_cons_zero, List.set_cons_succ]
      have b36 : Hid _ := nextB b4.out b6.out
      have PQ : Hid (Pv w6 (.agg #[.bool false, .slice a7 m7 c7, .slice none 0 0, .slice a9 m9 c9]) ⟨false, p.keys, [], p.kids.take i ++ qi ++ p.kids.drop (i + 1)⟩) := Pv.mk' (hz3.out.below b36.out) (Sl.empty _) s9.out (fun k hk => by
        rcases List.mem_append.1 hk with hk | hk
        · rcases List.mem_append.1 hk with hk | hk
          · exact KM.out k (List.mem_of_mem_take hk)
          · exact RV.out.mx k hk
        · exact KM.out k (List.mem_of_mem_drop hk))
      have PP : Hid (Ps (p.kids.take i ++ qi ++ p.kids.drop (i + 1))) := fun k hk => by
        rcases List.mem_append.1 hk with hk | hk
        · rcases List.mem_append.1 hk with hk | hk
          · exact KP.out k (List.mem_of_mem_take hk)
          · exact RV.out.ps k hk
        · exact KP.out k (List.mem_of_mem_drop hk)
      have X : Hid _ := M6.out.z.put (.bool false) (.slice a7 m7 c7) (.slice none 0 0) (.slice a9 m9 c9)
      have NB : Hid _ := M6.out.z.nt (nt_bool _) (nt_slice _ _ _) (nt_slice _ _ _) (nt_slice _ _ _)
      have PF : Hid _ := PQ.out.gw PP.out (Gw.of_grown X.out.2) NB.out (fun b hb => by cases hb)
      have BF : Hid _ := belowG (w := w) (nextB b0.out (nextB b3.out b36.out)) X.out.2 (fun k hk => by have := Option.some.inj hk; omega)
      have X3 : Hid _ := X.out.2
      have e2 : w.heap.size + 1 + 1 = w.heap.size + 2 := rfl
      obtain ⟨u0, u1, u2, u3⟩ := M6.out.z.b4
      have uz := M6.out.z.fz
      unfold st4 at X PF BF X3
      refine wpAnyH_ready (rs := [12]) (by kernel_rfl) (by simp) ?_
      refine cons2 rfl rfl (fun K9 hK => ?_)
      go_simp
      have k1 : ∀ j u, w6.cell? ⟨w.heap.size, j, none⟩ = some u → _ := fun j u hu => (World.cell?_of_block (w := w6) (a := ⟨w.heap.size, j, none⟩) (X3.out.block w.heap.size (World.block_lt_of_cell? _ _ hu) (fun e => by have := Option.some.inj e; omega))).trans hu
      have k2 : ∀ j u, w6.cell? ⟨w.heap.size + 1, j, none⟩ = some u → _ := fun j u hu => (World.cell?_of_block (w := w6) (a := ⟨w.heap.size + 1, j, none⟩) (X3.out.block (w.heap.size + 1) (World.block_lt_of_cell? _ _ hu) (fun e => by have := Option.some.inj e; omega))).trans hu
      refine hK.out _ _ ⟨k1 3 _ M6.out.a3, k2 1 _ M6.out.r1⟩ (fun hX => ?_)
      clear hK K9 hHeld hX k1 k2 u0 u1 u2 u3 uz
      try simp only [Act.put, List.setIfInBounds_toArray, List.set_cons_zero, List.set_cons_succ]
      refine wpAnyH_done (by kernel_rfl) ?_ _
      generalize (((w6.setCell ⟨w.heap.size + 2, 0, none⟩ (.bool false)).setCell ⟨w.heap.size + 2, 1, none⟩ (.slice a7 m7 c7)).setCell ⟨w.heap.size + 2, 2, none⟩ (.slice none 0 0)).setCell ⟨w.heap.size + 2, 3, none⟩ (.slice a9 m9 c9) = w7 at *
      obtain ⟨t0, t1, t2, t3⟩ := X.out.1.b4
      go_wp2
      rw [WE.out]
      refine bodyPost_ret (v := .agg #[.bool false, .slice a7 m7 c7, .slice none 0 0, .slice a9 m9 c9]) (by simp [results, Try.results61, go_sem, t0, t1, t2, t3]) rfl ⟨⟨_, rfl, ?_⟩, BF.out⟩
      have ek : (if 0 < qi.length then p.keys.take i ++ [] ++ p.keys.drop i else if 0 < p.keys.length then delAt p.keys (i - 1) else p.keys) = p.keys := by
        rw [if_pos QL.out, List.append_nil, List.take_append_drop]
      rw [ek]
      exact PF.out
    · obtain ⟨x, vb, re, ke, hv⟩ := hk
      simp only at re
      subst re
      simp only [List.length_cons, List.length_nil, Nat.zero_add] at ke
      injection ke with ke1 ke2 ke3
      subst ke1 ke3
      obtain ⟨m7, hm7⟩ : ∃ m7, m7 = p.keys.length + 1 := ⟨_, rfl⟩
      have vbl : vb < w.heap.size := (Array.getElem?_eq_some_iff.1 hv).1
      have KD := Insert_any (.slice a5 kn c5) p.keys i x w1.heap.size w2 o5.out (by rw [L1.out]; have := n3.out; omega) (by rw [L1.out]; omega) vb (by rw [(nextB b0.out b2.out).block vb vbl]; exact hv) (fun e => by have := ob5.out vb e; have := b0.out.size; omega)
      rw [← hm7] at KD
      have KI : Hid _ := KD
      have M2 := wx.out.below b2.out
      have r1 := M2.r1
      have r0 := M2.r0
      simp only [List.length_cons, List.length_nil, Nat.zero_add] at r0
      clear M2 KD hm7 hv vbl
      go_wp2_with fail
      refine Calls.mono KI.out ?_
      rintro e w3 X3'
      obtain ⟨a7, c7, rfl, s7', _⟩ := X3'.ex
      have g3' := X3'.gr
      have s7 : Hid _ := s7'
      have w3b : Hid _ := belowG (w := w0) b2.out g3' ob5.out
      have b3 : Hid _ := w3b.out
      clear w3b
      clear X3' s7' g3' KI r1 r0
      have M3 : Hid _ := wx.out.below b3.out
      have hz3 : Hid _ := s7
      go_upto_region 7 with fail
      refine wp_region_held_drew (S := (fun W => W.cell? ⟨w.heap.size, 3, none⟩ = some (.slice (some ⟨ib, io, none⟩) im ic) ∧ W.cell? ⟨w.heap.size + 1, 1, none⟩ = some (.slice ri qi.length rc))) (by kernel_rfl) ⟨(M3.out.below (Below.refl w3.heap.size w3).drew).a3, (M3.out.below (Below.refl w3.heap.size w3).drew).r1⟩ (fun hHeld => ?_)
      have b4 : Hid (Below w3.heap.size w3 w3.drew) := (Below.refl w3.heap.size w3).drew
      generalize w3.drew = w4 at *
      refine take2 rfl (i := 0) (v := (.slice a7 m7 c7)) (d := 34) rfl rfl (by kernel_rfl) (by kernel_rfl) (by kernel_rfl) (fun _ _ _ h => h) (Or.inl ⟨by rfl, ?_⟩) hHeld ?_
      · (intro W hW; (try dsimp only at hW); go_simp)
      try simp only [Act.put, List.setIfInBounds_toArray, List.set_cons_zero, List.set_cons_succ]
      refine take2 rfl (i := 1) (v := (.pointer (some ⟨w.heap.size, 0, none⟩))) (d := 35) rfl rfl (by kernel_rfl) (by kernel_rfl) (by kernel_rfl) (fun _ _ _ h => h) (Or.inl ⟨by rfl, ?_⟩) hHeld ?_
      · (intro W hW; (try dsimp only at hW); go_simp)
      try simp only [Act.put, List.setIfInBounds_toArray, List.set_cons_zero, List.set_cons_succ]
      refine take2 rfl (i := 2) (v := (.pointer (some ⟨w.heap.size, 3, none⟩))) (d := 36) rfl rfl (by kernel_rfl) (by kernel_rfl) (by kernel_rfl) (fun _ _ _ h => h) (Or.inl ⟨by rfl, ?_⟩) hHeld ?_
      · (intro W hW; (try dsimp only at hW); go_simp)
      try simp only [Act.put, List.setIfInBounds_toArray, List.set_cons_zero, List.set_cons_succ]
      refine take2 rfl (i := 3) (v := (.slice (some ⟨ib, io, none⟩) im ic)) (d := 37) rfl rfl (by kernel_rfl) (by kernel_rfl) (by kernel_rfl) (fun _ _ _ h => h) (Or.inl ⟨by rfl, ?_⟩) hHeld ?_
      · (intro W hW; (try dsimp only at hW); go_simp)
      try simp only [Act.put, List.setIfInBounds_toArray, List.set_cons_zero, List.set_cons_succ]
      refine take2 rfl (i := 5) (v := (.int .i64 (i : Nat))) (d := 39) rfl rfl (by kernel_rfl) (by kernel_rfl) (by kernel_rfl) (fun _ _ _ h => h) (Or.inl ⟨by rfl, ?_⟩) hHeld ?_
      · (intro W hW; (try dsimp only at hW); go_simp)
      try simp only [Act.put, List.setIfInBounds_toArray, List.set_cons_zero, List.set_cons_succ]
      refine take2 rfl (i := 6) (v := (.int .i64 (i : Nat))) (d := 40) rfl rfl (by kernel_rfl) (by kernel_rfl) (by kernel_rfl) (fun _ _ _ h => h) (Or.inl ⟨by rfl, ?_⟩) hHeld ?_
      · (intro W hW; (try dsimp only at hW); go_simp)
      try simp only [Act.put, List.setIfInBounds_toArray, List.set_cons_zero, List.set_cons_succ]
      refine take2 rfl (i := 7) (v := (.int .i64 ((i : Int) + 1))) (d := 41) rfl rfl (by kernel_rfl) (by kernel_rfl) (by kernel_rfl) (fun _ _ _ h => h) (Or.inl ⟨by rfl, ?_⟩) hHeld ?_
      · (intro W hW; (try dsimp only at hW); go_simp)
      try simp only [Act.put, List.setIfInBounds_toArray, List.set_cons_zero, List.set_cons_succ]
      refine take2 rfl (i := 8) (v := (.pointer (some ⟨w.heap.size + 1, 1, none⟩))) (d := 42) rfl rfl (by kernel_rfl) (by kernel_rfl) (by kernel_rfl) (fun _ _ _ h => h) (Or.inl ⟨by rfl, ?_⟩) hHeld ?_
      · (intro W hW; (try dsimp only at hW); go_simp)
      try simp only [Act.put, List.setIfInBounds_toArray, List.set_cons_zero, List.set_cons_succ]
      refine take2 rfl (i := 9) (v := (.slice ri qi.length rc)) (d := 43) rfl rfl (by kernel_rfl) (by kernel_rfl) (by kernel_rfl) (fun _ _ _ h => h) (Or.inl ⟨by rfl, ?_⟩) hHeld ?_
      · (intro W hW; (try dsimp only at hW); go_simp)
      try simp only [Act.put, List.setIfInBounds_toArray, List.set_cons_zero, List.set_cons_succ]
      refine wpAnyH_ready (rs := [4]) (by kernel_rfl) (by simp) ?_
      refine cons2 rfl rfl (fun K9 hK => ?_)
      go_simp
      go_at_call 82
      refine Calls.mono (cloneU_any _ im ic _ w4 (((H3.out.below b0.out).below b3.out).below b4.out) (by omega)) ?_
      rintro e w5 ⟨⟨v8, rfl, o8'⟩, b5'⟩
      obtain ⟨a8, c8, e8, _, _, f8⟩ := o8'.sl
      rw [kv_len, L3.out] at e8
      subst e8
      obtain ⟨g8, rfl⟩ : ∃ g8, a8 = some ⟨g8, 0, none⟩ := by
        rcases f8 with q | q
        · rw [q] at o8'
          have := o8'.row.1
          rw [kv_len, L3.out] at this
          rcases o8'.row.2 with ⟨_, h0⟩ | ⟨g', _, _, hv, _⟩
          · rw [kv_len, L3.out] at h0; omega
          · cases hv
        · exact q
      have o8 : Hid _ := o8'
      have g8l : Hid (w4.heap.size ≤ g8) := (o8'.row.lt g8 rfl).1
      have b5 : Hid _ := b5'
      have M5 : Hid _ := (M3.out.below b4.out).below b5.out
      clear o8' b5' f8
      go_wp2_with fail
      refine hK.out _ _ ⟨M5.out.a3, M5.out.r1⟩ (fun hX => ?_)
      clear hK K9 hHeld
      have hHeld := hX
      clear hX
      try simp only [Act.put, List.setIfInBounds_toArray, List.set_cons_zero, List.set_cons_succ]
      have RV5 : Hid _ := (((RV.out.below b0.out).below b3.out).below b4.out).below b5.out
      have VV : Hid _ := rv_of RV5.out g8 (fun b hb => by have := RV.out.old b hb; have := b0.out.size; have := b3.out.size; have := b4.out.size; have := g8l.out; omega)
      refine wpAnyH_ready (rs := [10]) (by kernel_rfl) (by simp) ?_
      refine cons2 rfl rfl (fun K9 hK => ?_)
      go_simp
      go_at_call 81
      refine Calls.mono (Replace_any g8 c8 im i w4.heap.size p.kids qi _ w5 o8.out (by omega) n4 b5.out.size VV.out) ?_
      rintro e w6 ⟨⟨a9, m9, c9, rfl, s9'⟩, g9'⟩
      have s9 : Hid _ := s9'
      have b6 : Hid _ := belowG (w := w4) b5.out g9' (fun k hk => by have := Option.some.inj hk; have := g8l.out; omega)
      have M6 : Hid _ := (M3.out.below b4.out).below b6.out
      clear s9' g9'
      go_wp2_with fail
      refine hK.out _ _ ⟨M6.out.a3, M6.out.r1⟩ (fun hX => ?_)
      clear hK K9 hHeld
      have hHeld := hX
      clear hX
      try simp only [Act.put, List.setIfInBounds_toArray, List.set_cons_zero, List.set_cons_succ]
      refine take2 rfl (i := 11) (v := (.agg #[.bool false, .slice a7 m7 c7, .slice none 0 0, .slice a9 m9 c9])) (d := 45) rfl rfl (by kernel_rfl) (by kernel_rfl) (by kernel_rfl) (fun _ _ _ h => h) (Or.inl ⟨by rfl, ?_⟩) hHeld ?_
      · (intro W hW; (try dsimp only at hW); go_simp)
      try simp only [Act.put, List.setIfInBounds_toArray, List.set_cons_zero, List.set_cons_succ]
      have b36 : Hid _ := nextB b4.out b6.out
      have PQ : Hid (Pv w6 (.agg #[.bool false, .slice a7 m7 c7, .slice none 0 0, .slice a9 m9 c9]) ⟨false, insAt p.keys i x, [], p.kids.take i ++ qi ++ p.kids.drop (i + 1)⟩) := Pv.mk' (hz3.out.below b36.out) (Sl.empty _) s9.out (fun k hk => by
        rcases List.mem_append.1 hk with hk | hk
        · rcases List.mem_append.1 hk with hk | hk
          · exact KM.out k (List.mem_of_mem_take hk)
          · exact RV.out.mx k hk
        · exact KM.out k (List.mem_of_mem_drop hk))
      have PP : Hid (Ps (p.kids.take i ++ qi ++ p.kids.drop (i + 1))) := fun k hk => by
        rcases List.mem_append.1 hk with hk | hk
        · rcases List.mem_append.1 hk with hk | hk
          · exact KP.out k (List.mem_of_mem_take hk)
          · exact RV.out.ps k hk
        · exact KP.out k (List.mem_of_mem_drop hk)
      have X : Hid _ := M6.out.z.put (.bool false) (.slice a7 m7 c7) (.slice none 0 0) (.slice a9 m9 c9)
      have NB : Hid _ := M6.out.z.nt (nt_bool _) (nt_slice _ _ _) (nt_slice _ _ _) (nt_slice _ _ _)
      have PF : Hid _ := PQ.out.gw PP.out (Gw.of_grown X.out.2) NB.out (fun b hb => by cases hb)
      have BF : Hid _ := belowG (w := w) (nextB b0.out (nextB b3.out b36.out)) X.out.2 (fun k hk => by have := Option.some.inj hk; omega)
      have X3 : Hid _ := X.out.2
      have e2 : w.heap.size + 1 + 1 = w.heap.size + 2 := rfl
      obtain ⟨u0, u1, u2, u3⟩ := M6.out.z.b4
      have uz := M6.out.z.fz
      unfold st4 at X PF BF X3
      refine wpAnyH_ready (rs := [12]) (by kernel_rfl) (by simp) ?_
      refine cons2 rfl rfl (fun K9 hK => ?_)
      go_simp
      have k1 : ∀ j u, w6.cell? ⟨w.heap.size, j, none⟩ = some u → _ := fun j u hu => (World.cell?_of_block (w := w6) (a := ⟨w.heap.size, j, none⟩) (X3.out.block w.heap.size (World.block_lt_of_cell? _ _ hu) (fun e => by have := Option.some.inj e; omega))).trans hu
      have k2 : ∀ j u, w6.cell? ⟨w.heap.size + 1, j, none⟩ = some u → _ := fun j u hu => (World.cell?_of_block (w := w6) (a := ⟨w.heap.size + 1, j, none⟩) (X3.out.block (w.heap.size + 1) (World.block_lt_of_cell? _ _ hu) (fun e => by have := Option.some.inj e; omega))).trans hu
      refine hK.out _ _ ⟨k1 3 _ M6.out.a3, k2 1 _ M6.out.r1⟩ (fun hX => ?_)
      clear hK K9 hHeld hX k1 k2 u0 u1 u2 u3 uz
      try simp only [Act.put, List.setIfInBounds_toArray, List.set_cons_zero, List.set_cons_succ]
      refine wpAnyH_done (by kernel_rfl) ?_ _
      generalize (((w6.setCell ⟨w.heap.size + 2, 0, none⟩ (.bool false)).setCell ⟨w.heap.size + 2, 1, none⟩ (.slice a7 m7 c7)).setCell ⟨w.heap.size + 2, 2, none⟩ (.slice none 0 0)).setCell ⟨w.heap.size + 2, 3, none⟩ (.slice a9 m9 c9) = w7 at *
      obtain ⟨t0, t1, t2, t3⟩ := X.out.1.b4
      go_wp2
      rw [WE.out]
      refine bodyPost_ret (v := .agg #[.bool false, .slice a7 m7 c7, .slice none 0 0, .slice a9 m9 c9]) (by simp [results, Try.results61, go_sem, t0, t1, t2, t3]) rfl ⟨⟨_, rfl, ?_⟩, BF.out⟩
      have ek : (if 0 < qi.length then p.keys.take i ++ [x] ++ p.keys.drop i else if 0 < p.keys.length then delAt p.keys (i - 1) else p.keys) = insAt p.keys i x := by
        rw [if_pos QL.out, insAt_app]
      rw [ek]
      exact PF.out

end Go.Proofs.Ythdjghmipepppaa

