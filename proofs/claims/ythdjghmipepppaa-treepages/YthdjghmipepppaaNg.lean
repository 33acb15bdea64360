/- Rows of roots and of maps beside a shelf. Roots and maps that a law holds beside its shelf. Roots and maps at their start. -/
import Derived.Test.YthdjghmipepppaaNe
import Derived.Test.YthdjghmipepppaaNf
namespace Go.Proofs.Ythdjghmipepppaa
open Go.RowKit Go.Shelf
set_option linter.unusedVariables false
set_option linter.unusedSimpArgs false
attribute [local go_sem] Oper.semAt_some

/-- Behind its end a row holds no text and no number but 0. -/
def Spz (w : World) (g n : Nat) : Prop := ∀ i u, n ≤ i → w.cell? ⟨g, i, none⟩ = some u → nt u
theorem Spz.kept {w w' : World} {g n : Nat} (h : Spz w g n) (e : w'.heap[g]? = w.heap[g]?) : Spz w' g n := fun i u hi hu => h i u hi (by rw [← World.cell?_of_block (w := w) (w' := w') (a := ⟨g, i, none⟩) e]; exact hu)
/-- All is kept, but in one block what is no text and no number. -/
structure Nr (w w' : World) (o : Option Nat) : Prop where
  os : w'.os = w.os
  tape : w'.tape = w.tape
  output : w'.output = w.output
  size : w.heap.size ≤ w'.heap.size
  block : ∀ k, k < w.heap.size → o ≠ some k → w'.heap[k]? = w.heap[k]?
  cell : ∀ b i u, o = some b → w.cell? ⟨b, i, none⟩ = some u → ¬ nt u → w'.cell? ⟨b, i, none⟩ = some u
theorem Nr.keep {w w' : World} {o : Option Nat} (h : Nr w w' o) {b i : Nat} {u : Value} (q : w.cell? ⟨b, i, none⟩ = some u) (hu : ¬ nt u) : w'.cell? ⟨b, i, none⟩ = some u := by
  by_cases e : o = some b
  · exact h.cell b i u e q hu
  · exact (World.cell?_of_block (w := w) (a := ⟨b, i, none⟩) (h.block b (World.block_lt_of_cell? _ _ q) e)).trans q
theorem sv_nn {ss : List ByteArray} : ∀ u ∈ sv ss, ¬ nt u := fun u hu q => by
  unfold sv at hu
  obtain ⟨s, _, rfl⟩ := List.mem_map.1 hu
  exact q.1 s rfl
theorem kv_nn {ks : List Nat} (h : Ps ks) : ∀ u ∈ kv ks, ¬ nt u := fun u hu q => by
  unfold kv at hu
  obtain ⟨k, hk, rfl⟩ := List.mem_map.1 hu
  have := q.2 _ rfl
  have := h k hk
  omega
theorem Sl.near {w w' : World} {o : Option Nat} {a : Option Addr} {n c : Nat} {vs : List Value} (S : Sl w a n c vs) (h : Nr w w' o) (hv : ∀ u ∈ vs, ¬ nt u) : Sl w' a n c vs := by
  obtain ⟨b, of, h1, h2⟩ := S.cell
  exact ⟨S.len, S.fits, S.max, S.nil, ⟨b, of, h1, fun i u hu => h.keep (h2 i u hu) (hv u (List.mem_of_getElem? hu))⟩, S.one⟩
theorem Pv.near {w w' : World} {o : Option Nat} {v : Value} {p : Pg} (h : Pv w v p) (hp : Ps p.kids) (g : Nr w w' o) : Pv w' v p := by
  obtain ⟨ka, kn, kc, va, vn, vc, ia, im, ic, e, k1, k2, k3⟩ := h.ex
  exact ⟨⟨ka, kn, kc, va, vn, vc, ia, im, ic, e, k1.near g sv_nn, k2.near g sv_nn, k3.near g (kv_nn hp)⟩, h.kid⟩
theorem Shf.near {w w' : World} {P : Nat} {sl : Value} {vs : List V4} {sh : List Pg} {ill n : Nat} {o : Option Nat} (h : Shf w P sl vs sh ill n) (g : Nr w w' o) (h1 : o ≠ some P) (h2 : ∀ b, sl.ownBlock = some b → o ≠ some b) : Shf w' P sl vs sh ill n := by
  have kP : w'.heap[P]? = w.heap[P]? := g.block P h.lt h1
  have cP : ∀ i, w'.cell? ⟨P, i, none⟩ = w.cell? ⟨P, i, none⟩ := fun i => World.cell?_of_block (w := w) (a := ⟨P, i, none⟩) kP
  refine ⟨(cP 0).trans h.c0, (cP 1).trans h.c1, (cP 2).trans h.c2, fun i hi => (cP i).trans (h.past i hi), fun i => ?_, ownsRow_kept h.own (fun b hb => g.block b (h.own.lt b hb).2 (h2 b hb)), h.len, fun i x p q1 q2 => (h.pv i x p q1 q2).near (h.kp p (List.mem_of_getElem? q2)) g, h.kp, h.ne, fun b hb => (h.nt b hb).kept (g.block b (h.own.lt b hb).2 (h2 b hb))⟩
  have q := h.fz i
  unfold World.frozen? at q ⊢
  simp only [kP]
  exact q
/-- A number more at a row's end. -/
def RmP (w : World) (base : Nat) (v : Value) (l : List Nat) (k : Nat) (r : Value) (w' : World) : Prop :=
  w'.ownsRow base 27 1 r (l ++ [k]).length (kv (l ++ [k])) ∧ Nr w w' v.ownBlock ∧ (∀ g, r.ownBlock = some g → Spz w' g (l ++ [k]).length)
set_option maxRecDepth 100000 in
set_option maxHeartbeats 4000000 in
theorem roots_more {w : World} {base : Nat} {v : Value} {l : List Nat} (hown : w.ownsRow base 27 1 v l.length (kv l)) (sp : ∀ g, v.ownBlock = some g → Spz w g l.length) (k : Nat) (hl : l.length ≤ 1000000) (B : Nat) (hB : w.heap[B]? = some (.cells #[.int .u64 (k : Nat)] 27 (0, 0))) (hb : base ≤ w.heap.size) (ty : TypeId) :
    ∃ r w', (Builtin.append_ #[39, 39] ty #[v, .slice (some ⟨B, 0, none⟩) 1 1]).run Try.prog w = .ok r w' ∧ RmP w base v l k r w' := by
  obtain ⟨i0, hi, hz0, hz1, hz2⟩ := info_parts u64Info
  have hnews : ∀ (j : Nat) (u : Value), [Value.int .u64 (k : Nat)][j]? = some u → w.cell? ((⟨B, 0, none⟩ : Addr).add j) = some u := fun j u hu => World.news_of_block hB j u (by simpa using hu)
  have h63 : l.length + 1 ≤ maxLen := by unfold maxLen; omega
  have n63 : ((l.length + 1 : Nat) : Int) ≤ 9223372036854775807 := by omega
  have one : ∀ u ∈ [Value.int .u64 (k : Nat)], u.oneCell' = true := fun u hu => by simp at hu; rw [hu]; rfl
  have hl1 : [Value.int .u64 (k : Nat)].length = 1 * i0.size := by rw [hz1]; rfl
  have ekv : kv (l ++ [k]) = kv l ++ [.int .u64 (k : Nat)] := kv_app _ _
  obtain ⟨g, cap, w', hr, h2, h3, h4, h5⟩ := run_append_lies (P := Try.prog) w 39 ty base 27 i0 _ 1 8 Try.underlying39 hi hz0 hz1 hz2 rfl (by decide) v l.length (kv l) hown ⟨B, 0, none⟩ 1 1 [.int .u64 (k : Nat)] rfl hnews one (by decide) h63 (by omega) hb _ rfl
  have klen : (kv l).length = l.length := by unfold kv; simp
  have cl : ∀ c : Array Value, c.toList.length = c.size := fun c => Array.length_toList
  have zn : ∀ u ∈ (Value.int .u64 0).cells.toList, nt u := fun u hu => by
    have e : u = .int .u64 0 := by simpa [Value.cells] using hu
    rw [e]
    exact ⟨fun s => by simp, fun z q => by injection q with _ q; exact q.symm⟩
  have fresh : ∀ (x : Array Value) (zs : Array Value) (W : World), x.size = (l ++ [k]).length → (∀ u ∈ zs.toList, nt u) → Spz (W.alloc (.cells (x ++ zs) 27)) W.heap.size (l ++ [k]).length := fun x zs W hx hc j u hj hu => by
    rw [cell_of_row _ _ _ _ _ _ (heap_alloc_new W _), Array.getElem?_append_right (by omega)] at hu
    exact hc u (by rw [← Array.getElem?_toList] at hu; exact List.mem_of_getElem? hu)
  have ll : (l ++ [k]).length = l.length + 1 := by simp
  refine ⟨_, w', hr, by rw [ekv, ll]; exact h2, ?_, ?_⟩
  · refine ⟨h3.os, h3.tape, h3.output, h3.size, fun j hj hj2 => h3.block j hj (fun e => hj2 e.symm), fun b j u e hu hn => ?_⟩
    rcases hown.2 with ⟨rfl, _⟩ | ⟨b', cp, cur, rfl, hbg, hg, hnc, hcm, hcs, htake⟩
    · cases e
    · have e2 : b' = b := by simpa [Value.ownBlock] using e
      subst e2
      have jl : j < l.length := by
        rcases Nat.lt_or_ge j l.length with q | q
        · exact q
        · exact absurd (sp b' rfl j u q hu) hn
      by_cases hroom : l.length + 1 ≤ cp
      · have hfit : l.length * i0.size + [Value.int .u64 (k : Nat)].length ≤ cur.size := by rw [hz1, hcs]; simp; omega
        have q := run_append_room (P := Try.prog) w 39 ty 27 i0 Try.underlying39 hi b' l.length cp cur hg ⟨B, 0, none⟩ 1 1 [.int .u64 (k : Nat)] hl1 hnews one hroom hfit
        rw [q] at hr
        injection hr with a1 a2
        rw [← a2, cell_setRow_same w b' j cur _ 27 (0, 0) hg]
        rw [cell_of_row w b' j cur 27 (0, 0) hg] at hu
        rw [hz1, Nat.mul_one, ← Array.getElem?_toList]
        have tl : j < (cur.toList.take l.length).length := by rw [List.length_take, cl cur, hcs]; omega
        simp only [List.append_assoc]
        rw [List.getElem?_append_left tl, List.getElem?_take_of_lt jl, Array.getElem?_toList]
        exact hu
      · have holds : ∀ j u, (kv l)[j]? = some u → w.cell? ((⟨b', 0, none⟩ : Addr).add j) = some u := hown.cells (g := b') rfl
        have q := run_append_grow (P := Try.prog) w 39 ty 27 i0 _ Try.underlying39 hi hz0 ⟨b', 0, none⟩ l.length cp (kv l) (by rw [hz1, klen]; omega) holds ⟨B, 0, none⟩ 1 1 [.int .u64 (k : Nat)] hl1 hnews (by omega) n63 (growslice_fits (by omega) (by rw [hz2]; omega))
        rw [q] at hr
        injection hr with a1 a2
        have lb := (Array.getElem?_eq_some_iff.1 hg).1
        have e3 : w'.heap[b']? = w.heap[b']? := by
          rw [← a2]
          exact (allocB w.drew _).block b' lb
        exact (World.cell?_of_block (w := w) (a := ⟨b', j, none⟩) e3).trans hu
  · intro g' hg'
    have eg : g = g' := by simpa [Value.ownBlock] using hg'
    subst eg
    rcases hown.2 with ⟨rfl, l0⟩ | ⟨b', cp, cur, rfl, hbg, hg, hnc, hcm, hcs, htake⟩
    · have q := run_append_nil (P := Try.prog) w 39 ty 27 i0 _ Try.underlying39 hi hz0 ⟨B, 0, none⟩ 1 1 [.int .u64 (k : Nat)] hl1 hnews (by decide) (by omega) (by rw [hz2]; omega)
      rw [l0] at hr
      rw [q] at hr
      injection hr with a1 a2
      injection a1 with a3
      have eg : w.heap.size = g := by injection a3 with a4; injection a4
      rw [← a2, ← eg]
      exact fresh _ _ w.drew (by simp [l0]) (zeroCells_nt zn _)
    · by_cases hroom : l.length + 1 ≤ cp
      · have hfit : l.length * i0.size + [Value.int .u64 (k : Nat)].length ≤ cur.size := by rw [hz1, hcs]; simp; omega
        have q := run_append_room (P := Try.prog) w 39 ty 27 i0 Try.underlying39 hi b' l.length cp cur hg ⟨B, 0, none⟩ 1 1 [.int .u64 (k : Nat)] hl1 hnews one hroom hfit
        rw [q] at hr
        injection hr with a1 a2
        injection a1 with a3
        have eg : b' = g := by injection a3 with a4; injection a4
        subst eg
        intro j u hj hu
        rw [← a2, cell_setRow_same w b' j cur _ 27 (0, 0) hg, ← Array.getElem?_toList, hz1, Nat.mul_one] at hu
        have tl : (cur.toList.take l.length).length = l.length := by rw [List.length_take, cl cur, hcs]; omega
        simp only [List.append_assoc] at hu
        rw [List.getElem?_append_right (by omega), tl, List.getElem?_append_right (by simp; omega), List.getElem?_drop] at hu
        refine sp b' rfl j u (by omega) ?_
        rw [cell_of_row w b' j cur 27 (0, 0) hg, ← Array.getElem?_toList]
        rw [← hu]
        congr 1
        simp
        omega
      · have holds : ∀ j u, (kv l)[j]? = some u → w.cell? ((⟨b', 0, none⟩ : Addr).add j) = some u := hown.cells (g := b') rfl
        have q := run_append_grow (P := Try.prog) w 39 ty 27 i0 _ Try.underlying39 hi hz0 ⟨b', 0, none⟩ l.length cp (kv l) (by rw [hz1, klen]; omega) holds ⟨B, 0, none⟩ 1 1 [.int .u64 (k : Nat)] hl1 hnews (by omega) n63 (growslice_fits (by omega) (by rw [hz2]; omega))
        rw [q] at hr
        injection hr with a1 a2
        injection a1 with a3
        have eg : w.heap.size = g := by injection a3 with a4; injection a4
        rw [← a2, ← eg]
        exact fresh _ _ w.drew (by simp [klen]) (zeroCells_nt zn _)

end Go.Proofs.Ythdjghmipepppaa

namespace Go.Proofs.Ythdjghmipepppaa
open Go.RowKit Go.Shelf
set_option linter.unusedVariables false
set_option linter.unusedSimpArgs false
attribute [local go_sem] Oper.semAt_some

theorem itemsInfo : (Try.prog.info? 33).map (fun i => (i.zero, i.size, i.bytes)) = some (some (.slice none 0 0), 1, 24) := by kernel_rfl
def MmP (w : World) (base : Nat) (v : Value) (ms : List Value) (x r : Value) (w' : World) : Prop :=
  w'.ownsRow base 33 1 r (ms ++ [x]).length (ms ++ [x]) ∧ w.grownBy w' v.ownBlock ∧ ∀ g, r.ownBlock = some g → NT w' g
set_option maxRecDepth 100000 in
theorem maps_more {w : World} {base : Nat} {v : Value} {ms : List Value} (hown : w.ownsRow base 33 1 v ms.length ms) (nz : ∀ g, v.ownBlock = some g → NT w g) (xa : Option Addr) (xn xc : Nat) (hl : ms.length ≤ 1000000) (B : Nat) (hB : w.heap[B]? = some (.cells #[.slice xa xn xc] 33 (0, 0))) (hb : base ≤ w.heap.size) (ty : TypeId) :
    ∃ r w', (Builtin.append_ #[67, 67] ty #[v, .slice (some ⟨B, 0, none⟩) 1 1]).run Try.prog w = .ok r w' ∧ MmP w base v ms (.slice xa xn xc) r w' := by
  obtain ⟨i0, hi, hz0, hz1, hz2⟩ := info_parts itemsInfo
  obtain ⟨g, cap, w', hr, h2, h3, h4, h5⟩ := run_append_nt (P := Try.prog) w 67 ty base 33 i0 _ 1 24 Try.underlying67 hi hz0 hz1 hz2 rfl (by decide) v ms.length ms hown ⟨B, 0, none⟩ 1 1 [.slice xa xn xc] rfl
    (fun j u hj => World.news_of_block hB j u (by simpa using hj)) (fun u hu => by simp at hu; rw [hu]; rfl) (by decide) (by unfold maxLen; omega) (by omega) hb
    (fun u hu => by have e : u = .slice none 0 0 := by simpa [Value.cells] using hu
                    rw [e]; exact nt_slice _ _ _) nz (fun u hu => by simp at hu; rw [hu]; exact nt_slice _ _ _)
  refine ⟨_, w', hr, by rw [List.length_append]; exact h2, h3, fun g' hg' => ?_⟩
  have eg : g = g' := by simpa [Value.ownBlock] using hg'
  rw [← eg]
  exact h5
theorem own1 {w : World} {base : Nat} {e : TypeId} {v : Value} {n : Nat} {xs : List Value} (h : w.ownsRow base e 1 v n xs) (hn : 0 < n) : ∃ g cap, v = .slice (some ⟨g, 0, none⟩) n cap ∧ n ≤ cap ∧ cap ≤ maxLen ∧ ∀ j u, xs[j]? = some u → w.cell? ⟨g, j, none⟩ = some u := by
  rcases h.2 with ⟨_, q⟩ | ⟨g, cap, cur, hv, _, hg, h1, h2, h3, ht⟩
  · omega
  · refine ⟨g, cap, hv, h1, h2, fun j u hu => ?_⟩
    have l := lt_of_some hu
    have l2 := h.1
    rw [← ht, List.getElem?_take_of_lt (by omega), Array.getElem?_toList] at hu
    simp [World.cell?, hg, hu]
theorem IR2.all {w : World} {base : Nat} {v : Value} {R : List It} (h : w.ownsRow base 61 2 v R.length (cI R)) : ∃ a c b, IR2 w v R a c b ∧ R.length ≤ c ∧ c ≤ maxLen := by
  obtain ⟨a, c, b, q⟩ := IR2.of h
  refine ⟨a, c, b, q, ?_⟩
  have e := q.v
  rcases h.2 with ⟨h0, h1⟩ | ⟨g, cap, cur, hv, _, hg, h1, h2, _⟩
  · rw [e] at h0
    injection h0 with _ _ h0
    rw [h0, h1]
    exact ⟨Nat.le_refl _, by unfold maxLen; omega⟩
  · rw [e] at hv
    injection hv with _ _ hv
    rw [hv]
    exact ⟨h1, h2⟩
structure MP (w : World) (base : Nat) (rv mv : Value) (rs : List Nat) (ms : List (Value × List It)) : Prop where
  rw : w.ownsRow base 27 1 rv rs.length (kv rs)
  rz : ∀ g, rv.ownBlock = some g → Spz w g rs.length
  mw : w.ownsRow base 33 1 mv (ms.map (·.1)).length (ms.map (·.1))
  mz : ∀ g, mv.ownBlock = some g → NT w g
  it : ∀ m ∈ ms, w.ownsRow base 61 2 m.1 m.2.length (cI m.2)
/-- The type of a row's block. -/
theorem own_ty {w : World} {base : Nat} {e : TypeId} {k : Nat} {v : Value} {n : Nat} {xs : List Value} (h : w.ownsRow base e k v n xs) {g : Nat} (q : v.ownBlock = some g) : ∃ cs, w.heap[g]? = some (.cells cs e (0, 0)) := by
  rcases h.2 with ⟨h0, _⟩ | ⟨b, cap, cur, hv, _, hg, _⟩
  · rw [h0] at q; cases q
  · rw [hv] at q
    have : b = g := by simpa [Value.ownBlock] using q
    rw [← this]
    exact ⟨cur, hg⟩
theorem own_apart {w : World} {b1 b2 : Nat} {e1 e2 : TypeId} {k1 k2 : Nat} {v1 v2 : Value} {n1 n2 : Nat} {x1 x2 : List Value} (h1 : w.ownsRow b1 e1 k1 v1 n1 x1) (h2 : w.ownsRow b2 e2 k2 v2 n2 x2) (ne : e1 ≠ e2) {g : Nat} (q1 : v1.ownBlock = some g) (q2 : v2.ownBlock = some g) : False := by
  obtain ⟨c1, p1⟩ := own_ty h1 q1
  obtain ⟨c2, p2⟩ := own_ty h2 q2
  rw [p1] at p2
  injection p2 with p2
  injection p2 with _ p2
  exact ne p2
theorem MP.kept {w w' : World} {base : Nat} {rv mv : Value} {rs : List Nat} {ms : List (Value × List It)} (h : MP w base rv mv rs ms) (k1 : ∀ g, rv.ownBlock = some g → w'.heap[g]? = w.heap[g]?) (k2 : ∀ g, mv.ownBlock = some g → w'.heap[g]? = w.heap[g]?) (k3 : ∀ m ∈ ms, ∀ g, m.1.ownBlock = some g → w'.heap[g]? = w.heap[g]?) : MP w' base rv mv rs ms :=
  ⟨ownsRow_kept h.rw k1, fun g q => (h.rz g q).kept (k1 g q), ownsRow_kept h.mw k2, fun g q => (h.mz g q).kept (k2 g q), fun m hm => ownsRow_kept (h.it m hm) (k3 m hm)⟩
theorem MP.below {w w' : World} {base : Nat} {rv mv : Value} {rs : List Nat} {ms : List (Value × List It)} (h : MP w base rv mv rs ms) (b : Below w.heap.size w w') : MP w' base rv mv rs ms :=
  h.kept (fun g q => b.block g (h.rw.lt g q).2) (fun g q => b.block g (h.mw.lt g q).2) (fun m hm g q => b.block g ((h.it m hm).lt g q).2)
theorem own_kp {w w' : World} {P base : Nat} {e : TypeId} {k : Nat} {v : Value} {n : Nat} {xs : List Value} (h : w.ownsRow base e k v n xs) (kp : Kp w w' P) (hP : P < base) (ne : e ≠ 54) : ∀ g, v.ownBlock = some g → w'.heap[g]? = w.heap[g]? := fun g q => by
  obtain ⟨cs, p⟩ := own_ty h q
  refine kp.block g (h.lt g q).2 (by have := (h.lt g q).1; omega) (fun cs' f e' => ?_)
  rw [p] at e'
  injection e' with e'
  injection e' with _ e'
  exact ne e'
theorem MP.kp {w w' : World} {P base : Nat} {rv mv : Value} {rs : List Nat} {ms : List (Value × List It)} (h : MP w base rv mv rs ms) (k : Kp w w' P) (hP : P < base) : MP w' base rv mv rs ms :=
  h.kept (own_kp h.rw k hP (by decide)) (own_kp h.mw k hP (by decide)) (fun m hm => own_kp (h.it m hm) k hP (by decide))
theorem MP.root {w w' : World} {base k : Nat} {rv mv r : Value} {rs : List Nat} {ms : List (Value × List It)} (h : MP w base rv mv rs ms) (q : RmP w base rv rs k r w') : MP w' base r mv (rs ++ [k]) ms := by
  obtain ⟨q1, q2, q3⟩ := q
  have k2 : ∀ g, mv.ownBlock = some g → w'.heap[g]? = w.heap[g]? := fun g e => q2.block g (h.mw.lt g e).2 (fun e2 => own_apart h.rw h.mw (by decide) e2 e)
  exact ⟨q1, q3, ownsRow_kept h.mw k2, fun g e => (h.mz g e).kept (k2 g e), fun m hm => ownsRow_kept (h.it m hm) (fun g e => q2.block g ((h.it m hm).lt g e).2 (fun e2 => own_apart h.rw (h.it m hm) (by decide) e2 e))⟩
theorem MP.map {w w' : World} {base : Nat} {rv mv r x : Value} {L : List It} {rs : List Nat} {ms : List (Value × List It)} (h : MP w base rv mv rs ms) (q : MmP w base mv (ms.map (·.1)) x r w') (o : w.ownsRow base 61 2 x L.length (cI L)) : MP w' base rv r rs (ms ++ [(x, L)]) := by
  obtain ⟨q1, q2, q3⟩ := q
  have k1 : ∀ g, rv.ownBlock = some g → w'.heap[g]? = w.heap[g]? := fun g e => q2.block g (h.rw.lt g e).2 (fun e2 => own_apart h.mw h.rw (by decide) e2.symm e)
  have kx : ∀ (v : Value) (M : List It), w.ownsRow base 61 2 v M.length (cI M) → w'.ownsRow base 61 2 v M.length (cI M) := fun v M ho => ownsRow_kept ho (fun g e => q2.block g (ho.lt g e).2 (fun e2 => own_apart h.mw ho (by decide) e2.symm e))
  refine ⟨ownsRow_kept h.rw k1, fun g e => (h.rz g e).kept (k1 g e), by rw [List.map_append]; exact q1, q3, fun m hm => ?_⟩
  rcases List.mem_append.1 hm with hm | hm
  · exact kx _ _ (h.it m hm)
  · simp at hm
    rw [hm]
    exact kx _ _ o
theorem SH.root {w w' : World} {P base k : Nat} {sh : List Pg} {ill n : Nat} {rv r : Value} {rs : List Nat} (h : SH w P sh ill n) (o : w.ownsRow base 27 1 rv rs.length (kv rs)) (hP : P < base) (q : RmP w base rv rs k r w') : SH w' P sh ill n := by
  obtain ⟨sl, vs, s, ho⟩ := h
  exact ⟨sl, vs, s.near q.2.1 (fun e => by have := (o.lt P e).1; omega) (fun b e e2 => own_apart o s.own (by decide) e2 e), ho⟩
theorem SH.map {w w' : World} {P base : Nat} {sh : List Pg} {ill n : Nat} {mv r x : Value} {ms : List Value} (h : SH w P sh ill n) (o : w.ownsRow base 33 1 mv ms.length ms) (nz : ∀ g, mv.ownBlock = some g → NT w g) (hP : P < base) (q : MmP w base mv ms x r w') : SH w' P sh ill n := by
  obtain ⟨sl, vs, s, ho⟩ := h
  refine ⟨sl, vs, ?_, ho⟩
  have g := q.2.1
  cases e : mv.ownBlock with
  | none =>
    rw [e] at g
    exact s.below ⟨g.os, g.tape, g.output, g.size, fun k hk => g.block k hk (by simp)⟩
  | some B =>
    rw [e] at g
    exact s.far g (fun q => by have := (o.lt B e).1; omega) (fun e2 => own_apart o s.own (by decide) e e2) (nz B e)
/-- What lies below a block is kept. -/
structure Lo (w w' : World) (P : Nat) : Prop where
  os : w'.os = w.os
  tape : w'.tape = w.tape
  output : w'.output = w.output
  size : w.heap.size ≤ w'.heap.size
  low : ∀ k, k < P → k < w.heap.size → w'.heap[k]? = w.heap[k]?
theorem Lo.refl (w : World) (P : Nat) : Lo w w P := ⟨rfl, rfl, rfl, Nat.le_refl _, fun _ _ _ => rfl⟩
theorem Lo.trans {a b c : World} {P : Nat} (h : Lo a b P) (k : Lo b c P) : Lo a c P := ⟨k.os.trans h.os, k.tape.trans h.tape, k.output.trans h.output, Nat.le_trans h.size k.size, fun i h1 h2 => (k.low i h1 (Nat.lt_of_lt_of_le h2 h.size)).trans (h.low i h1 h2)⟩
theorem Kp.lo {w w' : World} {P : Nat} (h : Kp w w' P) : Lo w w' P := ⟨h.os, h.tape, h.output, h.size, h.low⟩
theorem Lo.below {w w' : World} {P : Nat} (h : Below w.heap.size w w') : Lo w w' P := (Kp.of_below h P).lo
theorem RmP.lo {w w' : World} {P base k : Nat} {rv r : Value} {rs : List Nat} (o : w.ownsRow base 27 1 rv rs.length (kv rs)) (hP : P < base) (q : RmP w base rv rs k r w') : Lo w w' P := by
  have g := q.2.1
  exact ⟨g.os, g.tape, g.output, g.size, fun i h1 h2 => g.block i h2 (fun e => by have := (o.lt i e).1; omega)⟩
theorem MmP.lo {w w' : World} {P base : Nat} {mv r x : Value} {ms : List Value} (o : w.ownsRow base 33 1 mv ms.length ms) (hP : P < base) (q : MmP w base mv ms x r w') : Lo w w' P := by
  have g := q.2.1
  exact ⟨g.os, g.tape, g.output, g.size, fun i h1 h2 => g.block i h2 (fun e => by have := (o.lt i e.symm).1; omega)⟩
theorem lo_end {W w1 w2 wd : World} {P : Nat} (hP : w1.heap.size = P) (B1 : Below W.heap.size W w1) (b2 : Below P w1 w2) (q : Lo w2 wd P) : Below W.heap.size W wd := by
  have s1 := B1.size
  have s2 := b2.size
  exact ⟨q.os.trans (b2.os.trans B1.os), q.tape.trans (b2.tape.trans B1.tape), q.output.trans (b2.output.trans B1.output), Nat.le_trans B1.size (Nat.le_trans b2.size q.size), fun k hk => (q.low k (by omega) (by omega)).trans ((b2.block k (by omega)).trans (B1.block k hk))⟩
/-- Each elder root's tree. -/
def Ht (sh : List Pg) (rs : List Nat) (ms : List (Value × List It)) : Prop := ∀ (j r : Nat) (m : Value × List It), rs[j]? = some r → ms[j]? = some m → (∃ d f, Rt sh r m.2 d f ∧ d ≤ 14) ∧ m.2.length ≤ 60 ∧ r ≤ 1000000
theorem Ht.app {sh t : List Pg} {rs : List Nat} {ms : List (Value × List It)} (h : Ht sh rs ms) : Ht (sh ++ t) rs ms := fun j r m h1 h2 => by
  obtain ⟨⟨d, f, q1, q2⟩, q3⟩ := h j r m h1 h2
  exact ⟨⟨d, f, q1.app t, q2⟩, q3⟩
theorem Ht.snoc {sh : List Pg} {rs : List Nat} {ms : List (Value × List It)} {r : Nat} {m : Value × List It} (h : Ht sh rs ms) (hl : rs.length = ms.length) (q : (∃ d f, Rt sh r m.2 d f ∧ d ≤ 14) ∧ m.2.length ≤ 60 ∧ r ≤ 1000000) : Ht sh (rs ++ [r]) (ms ++ [m]) := fun j r' m' h1 h2 => by
  rcases Nat.lt_or_ge j rs.length with l | l
  · rw [List.getElem?_append_left l] at h1
    rw [List.getElem?_append_left (by omega)] at h2
    exact h j r' m' h1 h2
  · rw [List.getElem?_append_right l] at h1
    rw [List.getElem?_append_right (by omega), ← hl] at h2
    have e : j - rs.length = 0 := by have := lt_of_some h1; simp at this; omega
    rw [e] at h1 h2
    simp at h1 h2
    rw [← h1, ← h2]
    exact q

end Go.Proofs.Ythdjghmipepppaa

namespace Go.Proofs.Ythdjghmipepppaa
open Go.RowKit Go.Shelf
set_option linter.unusedVariables false
set_option linter.unusedSimpArgs false

theorem own_mono {w : World} {b b' : Nat} {e : TypeId} {k : Nat} {v : Value} {n : Nat} {xs : List Value} (h : w.ownsRow b e k v n xs) (hb : b' ≤ b) : w.ownsRow b' e k v n xs := by
  refine ⟨h.1, ?_⟩
  rcases h.2 with q | ⟨g, cap, cur, hv, hg, rest⟩
  · exact .inl q
  · exact .inr ⟨g, cap, cur, hv, Nat.le_trans hb hg, rest⟩
theorem own1c {w : World} {base : Nat} {e : TypeId} {g n m cap : Nat} {xs : List Value} (h : w.ownsRow base e 1 (.slice (some ⟨g, 0, none⟩) m cap) n xs) : ∀ j u, xs[j]? = some u → w.cell? ⟨g, j, none⟩ = some u := fun j u hu => by
  have l := lt_of_some hu
  have l2 := h.1
  obtain ⟨g', cap', hv, _, _, q⟩ := own1 h (by omega)
  injection hv with hv
  have e : g = g' := by injection hv with hv; injection hv
  rw [e]
  exact q j u hu
theorem chg_none {L : List It} {k v : ByteArray} (h : ¬ ∃ x ∈ L, x.1 = k) : chg k v true L = L := by
  rw [chg_done]
  exact List.filter_eq_self.2 (fun x hx => decide_eq_true (fun e => h ⟨x, hx, e⟩))
theorem MP.start (w : World) : MP ((w.alloc (.cells #[.int .u64 0] 27)).alloc (.cells #[.slice none 0 0] 33)) w.heap.size (.slice (some ⟨w.heap.size, 0, none⟩) 1 1) (.slice (some ⟨w.heap.size + 1, 0, none⟩) 1 1) [0] [(.slice none 0 0, [])] := by
  have e : (w.alloc (.cells #[.int .u64 0] 27)).heap.size = w.heap.size + 1 := World.size_alloc _ _
  have h1 : (w.alloc (.cells #[.int .u64 0] 27)).heap[w.heap.size]? = some (.cells #[.int .u64 0] 27 (0, 0)) := heap_alloc_new w _
  have h2 : ((w.alloc (.cells #[.int .u64 0] 27)).alloc (.cells #[.slice none 0 0] 33)).heap[w.heap.size]? = some (.cells #[.int .u64 0] 27 (0, 0)) := ((allocB _ _).block _ (by omega)).trans h1
  have h3 : ((w.alloc (.cells #[.int .u64 0] 27)).alloc (.cells #[.slice none 0 0] 33)).heap[w.heap.size + 1]? = some (.cells #[.slice none 0 0] 33 (0, 0)) := by rw [← e]; exact heap_alloc_new _ _
  refine ⟨⟨rfl, Or.inr ⟨_, 1, _, rfl, Nat.le_refl _, h2, Nat.le_refl _, by unfold maxLen; omega, rfl, rfl⟩⟩, fun g q i u hi hu => ?_, ⟨rfl, Or.inr ⟨_, 1, _, rfl, by omega, h3, Nat.le_refl _, by unfold maxLen; omega, rfl, rfl⟩⟩, fun g q i u hu => ?_, fun m hm => ?_⟩
  · have eg : w.heap.size = g := by simpa [Value.ownBlock] using q
    rw [← eg, cell_of_row _ _ _ _ _ _ h2] at hu
    have := lt_of_some (l := #[Value.int .u64 0].toList) (by rw [Array.getElem?_toList]; exact hu)
    simp at this hi
    omega
  · have eg : w.heap.size + 1 = g := by simpa [Value.ownBlock] using q
    rw [← eg, cell_of_row _ _ _ _ _ _ h3] at hu
    have := List.mem_of_getElem? (l := #[Value.slice none 0 0].toList) (by rw [Array.getElem?_toList]; exact hu)
    simp at this
    rw [this]
    exact nt_slice _ _ _
  · simp at hm
    rw [hm]
    exact World.ownsRow_nil _ _ _ _

end Go.Proofs.Ythdjghmipepppaa

