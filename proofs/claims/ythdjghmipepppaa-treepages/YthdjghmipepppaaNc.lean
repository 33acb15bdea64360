/- Pages and Deep: what is told. The law's shelf, call by call. -/
import Derived.Test.YthdjghmipepppaaNb
import Derived.Test.YthdjghmipepppaaMy
namespace Go.Proofs.Ythdjghmipepppaa
open Go.RowKit Go.Shelf
set_option linter.unusedVariables false
set_option linter.unusedSimpArgs false
attribute [local go_sem] Oper.semAt_some

theorem nums_more {w : World} {base : Nat} {v : Value} {l : List Nat} (h : w.ownsRow base 27 1 v l.length (kv l)) (k : Nat) (hl : l.length ≤ 1000000) (B : Nat) (hB : w.heap[B]? = some (.cells #[.int .u64 (k : Nat)] 27 (0, 0))) (hb : base ≤ w.heap.size) (ty : TypeId) :
    ∃ r w', (Builtin.append_ #[39, 39] ty #[v, .slice (some ⟨B, 0, none⟩) 1 1]).run Try.prog w = .ok r w' ∧
      (∃ g cap, r = .slice (some ⟨g, 0, none⟩) (l.length + 1) cap ∧ w'.ownsRow base 27 1 r (l.length + 1) (kv (l ++ [k])) ∧ w.grownBy w' v.ownBlock ∧ (v.ownBlock = some g ∨ g = w.heap.size)) := by
  obtain ⟨i0, hi, hz0, hz1, hz2⟩ := info_parts u64Info
  obtain ⟨g, cap, w', hr, h2, h3, h4, h5⟩ := run_append_lies (P := Try.prog) w 39 ty base 27 i0 _ 1 8 Try.underlying39 hi hz0 hz1 hz2 rfl (by decide) v l.length (kv l) h ⟨B, 0, none⟩ 1 1 [.int .u64 (k : Nat)] rfl
    (fun j u hj => World.news_of_block hB j u (by simpa using hj)) (fun u hu => by simp at hu; rw [hu]; rfl) (by decide) (by unfold maxLen; omega) (by omega) hb _ rfl
  exact ⟨_, w', hr, g, cap, rfl, by rw [kv_app]; exact h2, h3, h4⟩
def JP (T R : Nat) (W : World) (o : Option Nat) (t : List (Nat × Nat)) : Prop :=
  ∃ v, o = v.ownBlock ∧ W.cell? ⟨T, 0, none⟩ = some v ∧ (∀ i, W.frozen? ⟨T, i, none⟩ = false) ∧ W.ownsRow (R + 1) 27 1 v t.length (kv (t.map (·.1)))
theorem ownsRow_kept {w w' : World} {base : Nat} {t : TypeId} {k : Nat} {v : Value} {n : Nat} {xs : List Value} (h : w.ownsRow base t k v n xs) (ko : ∀ g, v.ownBlock = some g → w'.heap[g]? = w.heap[g]?) : w'.ownsRow base t k v n xs := by
  refine ⟨h.1, ?_⟩
  rcases h.2 with hn | ⟨g, cap, cur, hv, hg, hb, rest⟩
  · exact .inl hn
  · exact .inr ⟨g, cap, cur, hv, hg, by rw [ko g (by rw [hv]; rfl)]; exact hb, rest⟩

set_option maxRecDepth 100000 in
set_option maxHeartbeats 2000000 in
theorem tellPages (T R : Nat) (hR : T < R) : Tel 54 T R (JP T R) := by
  refine ⟨fun {W W' o t} ⟨v, e, c0, fz, ow⟩ k1 k2 => ⟨v, e, (World.cell?_of_block (w := W) (a := ⟨T, 0, none⟩) k1).trans c0, frozen_kept fz k1, ownsRow_kept ow (fun g q => k2 g (by rw [e, q]))⟩, fun {W o t} ⟨v, e, c0, fz, ow⟩ => ⟨World.block_lt_of_cell? _ _ c0, fun g q => by have := ow.lt g (by rw [← e, q]); omega⟩, ?_⟩
  rintro W o t k lv ⟨v, rfl, c0, fz, ow⟩ ht hk hl hRW
  have O : Hid _ := ow
  have FZ : Hid _ := fz
  have C0 : Hid _ := c0
  have TL : Hid _ := World.block_lt_of_cell? _ _ c0
  have b1 : Hid _ := allocB W (.cells #[.int .u64 (k : Nat)] 27)
  have E1 : Hid _ := heap_alloc_new W (.cells #[.int .u64 (k : Nat)] 27)
  have O1 : Hid ((W.alloc (.cells #[.int .u64 (k : Nat)] 27)).ownsRow (R + 1) 27 1 v (t.map (·.1)).length (kv (t.map (·.1)))) := by
    rw [List.length_map]
    exact ownsRow_kept ow (fun g q => b1.out.block g (ow.lt g q).2)
  have NE : Hid (∀ g, v.ownBlock = some g → R < g) := fun g q => by have := ow.lt g q; omega
  clear ow fz
  go_enter Try.func54, Try.ntmps54
  go_wp2_with (at_builtin; refine wpList_append_nt _ rfl (.tmp 5) (.tmp 7) 39 rfl _ _ rfl rfl _ (nums_more O1.out k (by rw [List.length_map]; omega) W.heap.size E1.out (by have := b1.out.size; omega) _) ?_; rintro r w2 ⟨g, cap, rfl, O2', G2', L2'⟩; (have KT : w2.heap[T]? = W.heap[T]? := (G2'.block T (Nat.lt_of_lt_of_le TL.out b1.out.size) (fun e => by have := NE.out T e.symm; omega)).trans (b1.out.block T TL.out)); (have c2 := (World.cell?_of_block (w := W) (a := ⟨T, 0, none⟩) KT).trans C0.out); (have f2 := frozen_kept FZ.out KT))
  rw [List.length_map] at O2'
  have gs := grownBy_setCell w2 T 0 (.slice (some ⟨g, 0, none⟩) (t.length + 1) cap)
  have gT : T < g := by
    rcases L2' with q | q
    · have := NE.out g q; omega
    · have := b1.out.size; have := TL.out; omega
  refine ⟨rfl, .tuple #[], by simp [results, Try.results54, go_sem], rfl, some g, ⟨.slice (some ⟨g, 0, none⟩) (t.length + 1) cap, rfl, World.cell?_setCell_same _ _ _ c2, fun i => by simp [f2], ?_⟩, ⟨gs.os.trans (G2'.os.trans b1.out.os), gs.tape.trans (G2'.tape.trans b1.out.tape), gs.output.trans (G2'.output.trans b1.out.output), Nat.le_trans b1.out.size (Nat.le_trans G2'.size gs.size), fun i h1 h2 h3 h4 => ?_⟩, ?_⟩
  · rw [List.map_append, List.length_append]
    have q := ownsRow_kept (w' := w2.setCell ⟨T, 0, none⟩ (.slice (some ⟨g, 0, none⟩) (t.length + 1) cap)) O2' (fun g' q => gs.block g' (O2'.lt g' q).2 (fun e => by
      have e1 : g = g' := by simpa [Value.ownBlock] using q
      have := Option.some.inj e
      omega))
    simpa using q
  · exact (gs.block i (Nat.lt_of_lt_of_le h1 (Nat.le_trans b1.out.size G2'.size)) (fun e => h2 (Option.some.inj e))).trans ((G2'.block i (Nat.lt_of_lt_of_le h1 b1.out.size) h4).trans (b1.out.block i h1))
  · rcases L2' with q | q
    · exact Or.inl q.symm
    · exact Or.inr ⟨g, rfl, by have := b1.out.size; omega⟩
/-- The deepest level told. -/
def dmax (t : List (Nat × Nat)) : Nat := (t.map (·.2)).foldl max 0
theorem dmax_snoc (t : List (Nat × Nat)) (k lv : Nat) : dmax (t ++ [(k, lv)]) = max (dmax t) lv := by simp [dmax]
def JD (T : Nat) (W : World) (o : Option Nat) (t : List (Nat × Nat)) : Prop :=
  o = none ∧ W.cell? ⟨T, 0, none⟩ = some (.int .i64 (dmax t : Nat)) ∧ (∀ i, W.frozen? ⟨T, i, none⟩ = false)
set_option maxRecDepth 100000 in
set_option maxHeartbeats 2000000 in
theorem tellDeep (T R : Nat) (hR : T < R) : Tel 55 T R (JD T) := by
  refine ⟨fun {W W' o t} ⟨e, c0, fz⟩ k1 k2 => ⟨e, (World.cell?_of_block (w := W) (a := ⟨T, 0, none⟩) k1).trans c0, frozen_kept fz k1⟩, fun {W o t} ⟨e, c0, fz⟩ => ⟨World.block_lt_of_cell? _ _ c0, fun g q => by rw [e] at q; cases q⟩, ?_⟩
  rintro W o t k lv ⟨rfl, c0, fz⟩ ht hk hl hRW
  have D : Hid (dmax (t ++ [(k, lv)]) = max (dmax t) lv) := dmax_snoc t k lv
  obtain ⟨d, hd⟩ : ∃ d, d = dmax t := ⟨_, rfl⟩
  rw [← hd] at c0 D
  have C0 : Hid _ := c0
  have FZ : Hid _ := fz
  clear hd
  go_enter Try.func55, Try.ntmps55
  go_wp2_with fail
  have gs := grownBy_setCell W T 0 (.int .i64 (max (d : Int) (lv : Int)))
  have e : ((dmax (t ++ [(k, lv)]) : Nat) : Int) = max (d : Int) (lv : Int) := by rw [D.out]; omega
  refine ⟨rfl, .tuple #[], by simp [results, Try.results55, go_sem], rfl, none, ⟨rfl, ?_, fun i => by simp [FZ.out]⟩, ⟨gs.os, gs.tape, gs.output, gs.size, fun i h1 h2 h3 h4 => gs.block i h1 (fun e => h2 (Option.some.inj e))⟩, Or.inl rfl⟩
  rw [e]
  exact World.cell?_setCell_same _ _ _ C0.out

/-- All pages told. -/
def pagesR (r : Nat) (sh : List Pg) (root : Nat) : List (Nat × Nat) := if root = 0 then [] else pagesL r 1 sh root
def PgP (w w' : World) (P : Nat) (sl : Value) (vs : List V4) (sh : List Pg) (n : Nat) (l : List (Nat × Nat)) (e : Ending) : Prop :=
  ∃ v n', e = .returned (.tuple #[v, .int .i64 0]) ∧ w'.ownsRow w.heap.size 27 1 v l.length (kv (l.map (·.1))) ∧ Shf w' P sl vs sh 0 n' ∧ Gw w w' P none ∧ n ≤ n' ∧ n' ≤ n + 3000
def DpP (w w' : World) (P : Nat) (sl : Value) (vs : List V4) (sh : List Pg) (n d : Nat) (e : Ending) : Prop :=
  ∃ n', e = .returned (.tuple #[.int .i64 (d : Nat), .int .i64 0]) ∧ Shf w' P sl vs sh 0 n' ∧ Gw w w' P none ∧ n ≤ n' ∧ n' ≤ n + 3000
set_option maxRecDepth 100000 in
set_option maxHeartbeats 4000000 in
theorem visitTree_uPages1 (P T : Nat) (J : World → Option Nat → List (Nat × Nat) → Prop) (sl : Value) (vs : List V4) (sh : List Pg) (n root r : Nat) (L : List It) (f : Nat) (w : World) (hT : T < w.heap.size) (hJ : Tel 54 T w.heap.size J) (j : J w none []) (h : Shf w P sl vs sh 0 n) (hP : P < T) (hsl : ∀ B, T ≤ B → sl.ownBlock ≠ some B) (hoff : ∀ B, T ≤ B → OffV vs B) (hn : n ≤ 700000000) (rt : Rt sh root L r f) (hL : L.length ≤ 125) (hs : sh.length ≤ 700000) (hr : r ≤ 20) :
    Calls Try.prog 53 #[ifP P, .int .u64 (root : Nat), .func (.func 54) #[] #[.pointer (some ⟨T, 0, none⟩)]] w fun e w' => e = .returned (.int .i64 0) ∧ ∃ o' n', Shf w' P sl vs sh 0 n' ∧ J w' o' (pagesR r sh root) ∧ Fv w w' P T w.heap.size none ∧ n ≤ n' ∧ n' ≤ n + 3000 := by
  have H : Hid _ := h
  have JJ : Hid _ := hJ
  have J0 : Hid (J w none []) := j
  unfold ifP
  by_cases c0 : root = 0
  · have ER : Hid (pagesR r sh root = []) := if_pos c0
    subst c0
    rw [ER.out]
    clear h hJ j rt hsl hoff
    go_enter Try.func53, Try.ntmps53
    go_wp2_with fail
    go_ret
    exact ⟨rfl, none, n, H.out, J0.out, Fv.refl _ _ _ _ _, Nat.le_refl _, by omega⟩
  · have ER : Hid (pagesR r sh root = pagesL r 1 sh root) := if_neg c0
    rw [ER.out]
    have tr := rt.some c0
    have rn := tr.num
    have ml : r * L.length ≤ 20 * 125 := Nat.mul_le_mul hr hL
    have b0 : Hid _ := allocB w (.cells #[.iface 23 (.pointer (some ⟨P, 0, none⟩)), .int .i64 0] 90)
    have RD : Rdr (w.alloc (.cells #[.iface 23 (.pointer (some ⟨P, 0, none⟩)), .int .i64 0] 90)) w.heap.size P 0 := ⟨by simp [ifP], by simp, fun i => World.frozen?_alloc_new _ _ _ i⟩
    have K : Hid _ := visit_any_uPages1 P T w.heap.size J hJ sl vs sh hP hT hsl hoff (by omega) r root 1 0 n L f none [] _ RD (h.below b0.out) (hJ.below j b0.out) tr (by omega) (by omega) (by omega) (by simp; omega) (by omega)
    have ML : Hid _ := ml
    have c6 : ((root : Int) == 0) = false := by simpa using c0
    have c5 : (root : Int) ≤ 1000000 := by omega
    clear h hJ j rt hsl hoff tr rn ml RD
    go_enter Try.func53, Try.ntmps53
    go_wp2_with fail
    refine Calls.mono K.out ?_
    rintro e w2 ⟨rfl, o', rd', n', r', s', j', f', x', m1, m2, m3⟩
    have X : Hid _ := And.intro s' (And.intro (j' : J w2 o' (pagesL r 1 sh root)) f')
    clear r' s' j' f' x' K
    go_wp2_with fail
    go_ret
    refine ⟨rfl, o', n', X.out.1, X.out.2.1, ?_, m2, by have := ML.out; omega⟩
    exact ((Fv.refl w P T w.heap.size none).below b0.out).trans X.out.2.2 (Or.inl rfl)
set_option maxRecDepth 100000 in
set_option maxHeartbeats 4000000 in
theorem visitTree_uDeep1 (P T : Nat) (J : World → Option Nat → List (Nat × Nat) → Prop) (sl : Value) (vs : List V4) (sh : List Pg) (n root r : Nat) (L : List It) (f : Nat) (w : World) (hT : T < w.heap.size) (hJ : Tel 55 T w.heap.size J) (j : J w none []) (h : Shf w P sl vs sh 0 n) (hP : P < T) (hsl : ∀ B, T ≤ B → sl.ownBlock ≠ some B) (hoff : ∀ B, T ≤ B → OffV vs B) (hn : n ≤ 700000000) (rt : Rt sh root L r f) (hL : L.length ≤ 125) (hs : sh.length ≤ 700000) (hr : r ≤ 20) :
    Calls Try.prog 53 #[ifP P, .int .u64 (root : Nat), .func (.func 55) #[] #[.pointer (some ⟨T, 0, none⟩)]] w fun e w' => e = .returned (.int .i64 0) ∧ ∃ o' n', Shf w' P sl vs sh 0 n' ∧ J w' o' (pagesR r sh root) ∧ Fv w w' P T w.heap.size none ∧ n ≤ n' ∧ n' ≤ n + 3000 := by
  have H : Hid _ := h
  have JJ : Hid _ := hJ
  have J0 : Hid (J w none []) := j
  unfold ifP
  by_cases c0 : root = 0
  · have ER : Hid (pagesR r sh root = []) := if_pos c0
    subst c0
    rw [ER.out]
    clear h hJ j rt hsl hoff
    go_enter Try.func53, Try.ntmps53
    go_wp2_with fail
    go_ret
    exact ⟨rfl, none, n, H.out, J0.out, Fv.refl _ _ _ _ _, Nat.le_refl _, by omega⟩
  · have ER : Hid (pagesR r sh root = pagesL r 1 sh root) := if_neg c0
    rw [ER.out]
    have tr := rt.some c0
    have rn := tr.num
    have ml : r * L.length ≤ 20 * 125 := Nat.mul_le_mul hr hL
    have b0 : Hid _ := allocB w (.cells #[.iface 23 (.pointer (some ⟨P, 0, none⟩)), .int .i64 0] 90)
    have RD : Rdr (w.alloc (.cells #[.iface 23 (.pointer (some ⟨P, 0, none⟩)), .int .i64 0] 90)) w.heap.size P 0 := ⟨by simp [ifP], by simp, fun i => World.frozen?_alloc_new _ _ _ i⟩
    have K : Hid _ := visit_any_uDeep1 P T w.heap.size J hJ sl vs sh hP hT hsl hoff (by omega) r root 1 0 n L f none [] _ RD (h.below b0.out) (hJ.below j b0.out) tr (by omega) (by omega) (by omega) (by simp; omega) (by omega)
    have ML : Hid _ := ml
    have c6 : ((root : Int) == 0) = false := by simpa using c0
    have c5 : (root : Int) ≤ 1000000 := by omega
    clear h hJ j rt hsl hoff tr rn ml RD
    go_enter Try.func53, Try.ntmps53
    go_wp2_with fail
    refine Calls.mono K.out ?_
    rintro e w2 ⟨rfl, o', rd', n', r', s', j', f', x', m1, m2, m3⟩
    have X : Hid _ := And.intro s' (And.intro (j' : J w2 o' (pagesL r 1 sh root)) f')
    clear r' s' j' f' x' K
    go_wp2_with fail
    go_ret
    refine ⟨rfl, o', n', X.out.1, X.out.2.1, ?_, m2, by have := ML.out; omega⟩
    exact ((Fv.refl w P T w.heap.size none).below b0.out).trans X.out.2.2 (Or.inl rfl)
set_option maxRecDepth 100000 in
set_option maxHeartbeats 4000000 in
theorem pagesTree (P : Nat) (sl : Value) (vs : List V4) (sh : List Pg) (n root r : Nat) (L : List It) (f : Nat) (w : World) (h : Shf w P sl vs sh 0 n) (hn : n ≤ 700000000) (rt : Rt sh root L r f) (hL : L.length ≤ 125) (hs : sh.length ≤ 700000) (hr : r ≤ 20) :
    Calls Try.prog 22 #[ifP P, .int .u64 (root : Nat)] w fun e w' => PgP w w' P sl vs sh n (pagesR r sh root) e := by
  have H : Hid _ := h
  have b0 : Hid _ := allocB w (.cells #[.slice none 0 0] 39)
  have z0 : (w.alloc (.cells #[.slice none 0 0] 39)).heap.size = w.heap.size + 1 := by simp
  have Z0 : Hid _ := z0
  have TJ := tellPages w.heap.size (w.alloc (.cells #[.slice none 0 0] 39)).heap.size (by rw [z0]; omega)
  have J0 : JP w.heap.size (w.alloc (.cells #[.slice none 0 0] 39)).heap.size (w.alloc (.cells #[.slice none 0 0] 39)) none [] := ⟨_, rfl, by simp, fun i => World.frozen?_alloc_new _ _ _ i, World.ownsRow_nil _ _ _ _⟩
  have K : Hid _ := visitTree_uPages1 P w.heap.size _ sl vs sh n root r L f _ (by rw [z0]; omega) TJ J0 (h.below b0.out) h.lt (fun B hB => h.newer B hB) (fun B hB => h.offNew hB) hn rt hL hs hr
  unfold ifP at K ⊢
  clear h rt TJ J0 hL hs hr z0
  go_enter Try.func22, Try.ntmps22
  go_wp2_with fail
  refine Calls.mono K.out ?_
  rintro e w2 ⟨rfl, o', n', s', j', f', m2, m3⟩
  have G : Hid (Gw w w2 P none) := ⟨f'.os.trans b0.out.os, f'.tape.trans b0.out.tape, f'.output.trans b0.out.output, Nat.le_trans b0.out.size f'.size, fun k h1 h2 _ => (f'.block k (Nat.lt_of_lt_of_le h1 b0.out.size) h2 (by omega) (by have := Z0.out; omega) (by simp)).trans (b0.out.block k h1)⟩
  have S : Hid _ := s'
  obtain ⟨v, rfl, c0, fz, ow⟩ := j'
  have O : Hid _ := ownsRow_mono ow (by have := Z0.out; omega : w.heap.size ≤ _)
  clear K s' f' ow fz
  go_wp2_with fail
  go_ret2
  exact ⟨v, n', rfl, O.out, S.out, G.out, m2, m3⟩
set_option maxRecDepth 100000 in
set_option maxHeartbeats 4000000 in
theorem deepTree (P : Nat) (sl : Value) (vs : List V4) (sh : List Pg) (n root r : Nat) (L : List It) (f : Nat) (w : World) (h : Shf w P sl vs sh 0 n) (hn : n ≤ 700000000) (rt : Rt sh root L r f) (hL : L.length ≤ 125) (hs : sh.length ≤ 700000) (hr : r ≤ 20) :
    Calls Try.prog 25 #[ifP P, .int .u64 (root : Nat)] w fun e w' => DpP w w' P sl vs sh n (dmax (pagesR r sh root)) e := by
  have H : Hid _ := h
  have b0 : Hid _ := allocB w (.cells #[.int .i64 0] 3)
  have z0 : (w.alloc (.cells #[.int .i64 0] 3)).heap.size = w.heap.size + 1 := by simp
  have Z0 : Hid _ := z0
  have TJ := tellDeep w.heap.size (w.alloc (.cells #[.int .i64 0] 3)).heap.size (by rw [z0]; omega)
  have J0 : JD w.heap.size (w.alloc (.cells #[.int .i64 0] 3)) none [] := ⟨rfl, by simp [dmax], fun i => World.frozen?_alloc_new _ _ _ i⟩
  have K : Hid _ := visitTree_uDeep1 P w.heap.size _ sl vs sh n root r L f _ (by rw [z0]; omega) TJ J0 (h.below b0.out) h.lt (fun B hB => h.newer B hB) (fun B hB => h.offNew hB) hn rt hL hs hr
  unfold ifP at K ⊢
  clear h rt TJ J0 hL hs hr z0
  go_enter Try.func25, Try.ntmps25
  go_wp2_with fail
  refine Calls.mono K.out ?_
  rintro e w2 ⟨rfl, o', n', s', j', f', m2, m3⟩
  have G : Hid (Gw w w2 P none) := ⟨f'.os.trans b0.out.os, f'.tape.trans b0.out.tape, f'.output.trans b0.out.output, Nat.le_trans b0.out.size f'.size, fun k h1 h2 _ => (f'.block k (Nat.lt_of_lt_of_le h1 b0.out.size) h2 (by omega) (by have := Z0.out; omega) (by simp)).trans (b0.out.block k h1)⟩
  have S : Hid _ := s'
  obtain ⟨rfl, c0', fz⟩ := j'
  obtain ⟨D, hD⟩ : ∃ D, D = dmax (pagesR r sh root) := ⟨_, rfl⟩
  have c0 : w2.cell? ⟨w.heap.size, 0, none⟩ = some (.int .i64 (D : Nat)) := by rw [hD]; exact c0'
  have HD : Hid _ := hD
  clear K s' f' fz c0' hD
  go_wp2_with fail
  go_ret2
  rw [← HD.out]
  exact ⟨n', rfl, S.out, G.out, m2, m3⟩

end Go.Proofs.Ythdjghmipepppaa

namespace Go.Proofs.Ythdjghmipepppaa
open Go.RowKit Go.Shelf
set_option linter.unusedVariables false
set_option linter.unusedSimpArgs false
attribute [local go_sem] Oper.semAt_some

/-- No row of pages. -/
def Np (w : World) (k : Nat) : Prop := ∀ cs f, w.heap[k]? ≠ some (.cells cs 54 f)
/-- A shelf, its row newer than itself. -/
structure SH (w : World) (P : Nat) (sh : List Pg) (ill n : Nat) : Prop where
  ex : ∃ sl vs, Shf w P sl vs sh ill n ∧ ∀ g, sl.ownBlock = some g → P < g
structure Kp (w w' : World) (P : Nat) : Prop where
  os : w'.os = w.os
  tape : w'.tape = w.tape
  output : w'.output = w.output
  size : w.heap.size ≤ w'.heap.size
  low : ∀ k, k < P → k < w.heap.size → w'.heap[k]? = w.heap[k]?
  block : ∀ k, k < w.heap.size → k ≠ P → Np w k → w'.heap[k]? = w.heap[k]?
theorem Kp.refl (w : World) (P : Nat) : Kp w w P := ⟨rfl, rfl, rfl, Nat.le_refl _, fun _ _ _ => rfl, fun _ _ _ _ => rfl⟩
theorem Kp.trans {a b c : World} {P : Nat} (h : Kp a b P) (k : Kp b c P) : Kp a c P :=
  ⟨k.os.trans h.os, k.tape.trans h.tape, k.output.trans h.output, Nat.le_trans h.size k.size, fun i h1 h2 => (k.low i h1 (Nat.lt_of_lt_of_le h2 h.size)).trans (h.low i h1 h2), fun i h1 h2 h3 => by
    have q := h.block i h1 h2 h3
    exact (k.block i (Nat.lt_of_lt_of_le h1 h.size) h2 (fun cs f e => h3 cs f (by rw [← q]; exact e))).trans q⟩
theorem Kp.of_below {w w' : World} (h : Below w.heap.size w w') (P : Nat) : Kp w w' P := ⟨h.os, h.tape, h.output, h.size, fun k _ hk => h.block k hk, fun k hk _ _ => h.block k hk⟩
theorem Kp.next {a b c : World} {P : Nat} (h : Kp a b P) (k : Below b.heap.size b c) : Kp a c P := h.trans (Kp.of_below k P)
theorem Shf.page {w : World} {P : Nat} {sl : Value} {vs : List V4} {sh : List Pg} {ill n : Nat} (h : Shf w P sl vs sh ill n) {g : Nat} (e : sl.ownBlock = some g) : ∃ cs, w.heap[g]? = some (.cells cs 54 (0, 0)) := by
  rcases h.own.2 with ⟨q, _⟩ | ⟨g', cap, cur, hv, _, hg, _⟩
  · rw [q] at e; cases e
  · rw [hv] at e
    have : g' = g := by simpa [Value.ownBlock] using e
    rw [← this]
    exact ⟨cur, hg⟩
theorem Gw.kp {w w' : World} {P : Nat} {sl : Value} {vs : List V4} {sh : List Pg} {ill n : Nat} (g : Gw w w' P sl.ownBlock) (h : Shf w P sl vs sh ill n) (ho : ∀ g, sl.ownBlock = some g → P < g) : Kp w w' P :=
  ⟨g.os, g.tape, g.output, g.size, fun k h1 h2 => g.block k h2 (by omega) (fun e => by have := ho k e.symm; omega), fun k h1 h2 h3 => g.block k h1 h2 (fun e => by
    obtain ⟨cs, q⟩ := h.page e.symm
    exact h3 cs _ q)⟩
theorem Gw.kp0 {w w' : World} {P : Nat} (g : Gw w w' P none) : Kp w w' P :=
  ⟨g.os, g.tape, g.output, g.size, fun k h1 h2 => g.block k h2 (by omega) (by simp), fun k h1 h2 h3 => g.block k h1 h2 (by simp)⟩
theorem AddP.sh {w w' : World} {P : Nat} {sl : Value} {vs : List V4} {sh sh' : List Pg} {ill n n' : Nat} (a : AddP w w' P sl sh' ill n') (h : Shf w P sl vs sh ill n) (ho : ∀ g, sl.ownBlock = some g → P < g) : SH w' P sh' ill n' ∧ Kp w w' P := by
  obtain ⟨sl', vs', s, g, o⟩ := a
  refine ⟨⟨sl', vs', s, fun b hb => ?_⟩, g.kp h ho⟩
  rcases o with q | ⟨g', q, hg⟩
  · exact ho b (by rw [← q]; exact hb)
  · rw [q] at hb
    have := Option.some.inj hb
    have := h.lt
    omega
theorem SH.below {w w' : World} {P : Nat} {sh : List Pg} {ill n : Nat} (h : SH w P sh ill n) (b : Below w.heap.size w w') : SH w' P sh ill n := by
  obtain ⟨sl, vs, s, o⟩ := h
  exact ⟨sl, vs, s.below b, o⟩
theorem SH.lt {w : World} {P : Nat} {sh : List Pg} {ill n : Nat} (h : SH w P sh ill n) : P < w.heap.size := by
  obtain ⟨sl, vs, s, o⟩ := h
  exact s.lt
/-- What a change leaves. -/
def ChS (w w' : World) (P : Nat) (sh : List Pg) (ill n : Nat) (R : List Pg × Nat) (er : Int) (e : Ending) : Prop :=
  (∃ n', e = .returned (.tuple #[.int .u64 (R.2 : Nat), .int .i64 er]) ∧ SH w' P R.1 ill n' ∧ Kp w w' P ∧ n ≤ n' ∧ n' ≤ n + 100 ∧ (ill = 0 ∨ n' < ill)) ∨
  (∃ t, e = .returned (.tuple #[.int .u64 0, .int .i64 4]) ∧ SH w' P (sh ++ t) ill ill ∧ Kp w w' P ∧ 0 < ill)
theorem ChP.s {w w' : World} {P : Nat} {sl : Value} {vs : List V4} {sh : List Pg} {ill n : Nat} {R : List Pg × Nat} {er : Int} {e : Ending} (c : ChP w w' P sl sh ill n R er e) (h : Shf w P sl vs sh ill n) (ho : ∀ g, sl.ownBlock = some g → P < g) : ChS w w' P sh ill n R er e := by
  rcases c with ⟨n', e, a, l1, l2, l3⟩ | ⟨t, e, a, iz⟩
  · exact Or.inl ⟨n', e, (a.sh h ho).1, (a.sh h ho).2, l1, l2, l3⟩
  · exact Or.inr ⟨t, e, (a.sh h ho).1, (a.sh h ho).2, iz⟩
theorem putS (P : Nat) (sh : List Pg) (ill n root r : Nat) (k v : ByteArray) (L : List It) (f : Nat) (w : World) (h : SH w P sh ill n) (hn : n ≤ 700000000) (hi : ill ≤ 1000000000) (wl : ill = 0 ∨ n < ill) (rt : Rt sh root L r f) (hk : 1 ≤ k.size ∧ k.size ≤ 40) (hv : v.size ≤ 400) (hL : L.length ≤ 125) (hs : sh.length ≤ 700000) (hr : r ≤ 20) :
    Calls Try.prog 10 #[ifP P, .int .u64 (root : Nat), .string k, .string v] w fun e w' => ChS w w' P sh ill n (putT r sh root k v) 0 e := by
  obtain ⟨sl, vs, s, o⟩ := h
  refine Calls.mono (putTree P sl vs sh ill n root r k v L f w s hn hi wl rt hk hv hL hs hr) (fun e w' c => ?_)
  rw [putC_is rt hk hv (by omega) (by omega)] at c
  exact c.s s o
theorem dropS (P : Nat) (sh : List Pg) (ill n root r : Nat) (k : ByteArray) (L : List It) (f : Nat) (w : World) (h : SH w P sh ill n) (hn : n ≤ 700000000) (hi : ill ≤ 1000000000) (wl : ill = 0 ∨ n < ill) (rt : Rt sh root L r f) (hk : 1 ≤ k.size ∧ k.size ≤ 40) (hL : L.length ≤ 125) (hs : sh.length ≤ 700000) (hr : r ≤ 20) :
    Calls Try.prog 11 #[ifP P, .int .u64 (root : Nat), .string k] w fun e w' => ((∃ x ∈ L, x.1 = k) → ChS w w' P sh ill n (dropT r sh root k) 0 e) ∧ ((¬ ∃ x ∈ L, x.1 = k) → ChS w w' P sh ill n (sh, 0) 5 e) := by
  obtain ⟨sl, vs, s, o⟩ := h
  exact Calls.mono (dropTree P sl vs sh ill n root r k L f w s hn hi wl rt hk hL hs hr) (fun e w' c => ⟨fun q => (c.1 q).s s o, fun q => (c.2 q).s s o⟩)
def FiS (w w' : World) (P : Nat) (sh : List Pg) (n : Nat) (o : Option ByteArray) (e : Ending) : Prop :=
  ∃ n', e = .returned (.tuple #[.string (o.getD ByteArray.empty), .int .i64 (if o.isSome then 0 else 5)]) ∧ SH w' P sh 0 n' ∧ Kp w w' P ∧ n ≤ n' ∧ n' ≤ n + 100
theorem findS (P : Nat) (sh : List Pg) (n root r : Nat) (k : ByteArray) (L : List It) (f : Nat) (w : World) (h : SH w P sh 0 n) (hn : n ≤ 700000000) (rt : Rt sh root L r f) (hk : 1 ≤ k.size ∧ k.size ≤ 40) (hL : L.length ≤ 125) (hs : sh.length ≤ 700000) (hr : r ≤ 20) :
    Calls Try.prog 14 #[ifP P, .int .u64 (root : Nat), .string k] w fun e w' => FiS w w' P sh n (getL L k) e := by
  obtain ⟨sl, vs, s, o⟩ := h
  refine Calls.mono (findTree P sl vs sh n root r k L f w s hn rt hk hL hs hr) (fun e w' c => ?_)
  obtain ⟨n', c1, c2, c3, c4⟩ := c
  exact ⟨n', c1, ⟨sl, vs, c2, o⟩, c3.kp0, c4⟩
def RaS (w w' : World) (P : Nat) (sh : List Pg) (n : Nat) (R : List It) (e : Ending) : Prop :=
  ∃ v n', e = .returned (.tuple #[v, .int .i64 0]) ∧ w'.ownsRow w.heap.size 61 2 v R.length (cI R) ∧ SH w' P sh 0 n' ∧ Kp w w' P ∧ n ≤ n' ∧ n' ≤ n + 3000
theorem rangeS (P : Nat) (sh : List Pg) (n root r : Nat) (a b : ByteArray) (m : Int) (L : List It) (f : Nat) (w : World) (h : SH w P sh 0 n) (hn : n ≤ 700000000) (rt : Rt sh root L r f) (hL : L.length ≤ 125) (hs : sh.length ≤ 9223372036854775807) (hr : r ≤ 20) :
    Calls Try.prog 12 #[ifP P, .int .u64 (root : Nat), .string a, .string b, .int .i64 m] w fun e w' => RaS w w' P sh n ((rng L a b).take m.toNat) e := by
  obtain ⟨sl, vs, s, o⟩ := h
  refine Calls.mono (rangeTree P sl vs sh n root r a b m L f w s hn rt hL hs hr) (fun e w' c => ?_)
  obtain ⟨v, n', c1, c2, c3, c4, c5⟩ := c
  exact ⟨v, n', c1, c2, ⟨sl, vs, c3, o⟩, c4.kp0, c5⟩
def PgS (w w' : World) (P : Nat) (sh : List Pg) (n : Nat) (l : List (Nat × Nat)) (e : Ending) : Prop :=
  ∃ v n', e = .returned (.tuple #[v, .int .i64 0]) ∧ w'.ownsRow w.heap.size 27 1 v l.length (kv (l.map (·.1))) ∧ SH w' P sh 0 n' ∧ Kp w w' P ∧ n ≤ n' ∧ n' ≤ n + 3000
theorem pagesS (P : Nat) (sh : List Pg) (n root r : Nat) (L : List It) (f : Nat) (w : World) (h : SH w P sh 0 n) (hn : n ≤ 700000000) (rt : Rt sh root L r f) (hL : L.length ≤ 125) (hs : sh.length ≤ 700000) (hr : r ≤ 20) :
    Calls Try.prog 22 #[ifP P, .int .u64 (root : Nat)] w fun e w' => PgS w w' P sh n (pagesR r sh root) e := by
  obtain ⟨sl, vs, s, o⟩ := h
  refine Calls.mono (pagesTree P sl vs sh n root r L f w s hn rt hL hs hr) (fun e w' c => ?_)
  obtain ⟨v, n', c1, c2, c3, c4, c5⟩ := c
  exact ⟨v, n', c1, c2, ⟨sl, vs, c3, o⟩, c4.kp0, c5⟩
def DpS (w w' : World) (P : Nat) (sh : List Pg) (n d : Nat) (e : Ending) : Prop :=
  ∃ n', e = .returned (.tuple #[.int .i64 (d : Nat), .int .i64 0]) ∧ SH w' P sh 0 n' ∧ Kp w w' P ∧ n ≤ n' ∧ n' ≤ n + 3000
theorem deepS (P : Nat) (sh : List Pg) (n root r : Nat) (L : List It) (f : Nat) (w : World) (h : SH w P sh 0 n) (hn : n ≤ 700000000) (rt : Rt sh root L r f) (hL : L.length ≤ 125) (hs : sh.length ≤ 700000) (hr : r ≤ 20) :
    Calls Try.prog 25 #[ifP P, .int .u64 (root : Nat)] w fun e w' => DpS w w' P sh n (dmax (pagesR r sh root)) e := by
  obtain ⟨sl, vs, s, o⟩ := h
  refine Calls.mono (deepTree P sl vs sh n root r L f w s hn rt hL hs hr) (fun e w' c => ?_)
  obtain ⟨n', c1, c3, c4, c5⟩ := c
  exact ⟨n', c1, ⟨sl, vs, c3, o⟩, c4.kp0, c5⟩
/-- A new shelf. -/
theorem SH.new (w : World) : SH (w.alloc (.cells #[.slice none 0 0, .int .i64 0, .int .i64 0] 26)) w.heap.size [] 0 0 := by
  refine ⟨.slice none 0 0, [], ⟨by simp, by simp, by simp, fun i hi => ?_, fun i => World.frozen?_alloc_new _ _ _ i, World.ownsRow_nil _ _ _ _, rfl, fun i x p h => (by simp at h), fun p hp => (by cases hp), (by simp [Value.ownBlock]), fun g hg => (by simp [Value.ownBlock] at hg)⟩, fun g hg => (by simp [Value.ownBlock] at hg)⟩
  simp
  omega

end Go.Proofs.Ythdjghmipepppaa

