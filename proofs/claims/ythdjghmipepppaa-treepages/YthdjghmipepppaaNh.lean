/- Pages of a tree into which keys were only put: what each is, their leaves' keys, how deep. level: is a tree just so deep everywhere. Pages one by one: the last key so far. -/
import Derived.Test.YthdjghmipepppaaNf
import Derived.Test.YthdjghmipepppaaNg
namespace Go.Proofs.Ythdjghmipepppaa
open Go.RowKit Go.Shelf
set_option linter.unusedVariables false
set_option linter.unusedSimpArgs false

/-- A leaf's keys. -/
def lk (sh : List Pg) (n : Nat) : List ByteArray := match pgAt sh n with
  | none => []
  | some p => if p.leaf then p.keys else []
theorem lk_at {sh : List Pg} {n : Nat} {p : Pg} (h : pgAt sh n = some p) : lk sh n = if p.leaf then p.keys else [] := by unfold lk; rw [h]
theorem zipK_fst : ∀ (ks vs : List ByteArray), vs.length = ks.length → (zipK ks vs).map (·.1) = ks
  | [], _, _ => by simp [zipK]
  | k :: ks, [], h => by simp at h
  | k :: ks, v :: vs, h => by
    have q := zipK_fst ks vs (by simpa using h)
    simp only [zipK, List.zip_cons_cons, List.map_cons] at q ⊢
    rw [q]
/-- What a page of such a tree is. -/
structure PgW (sh : List Pg) (n : Nat) (p : Pg) : Prop where
  at_ : pgAt sh n = some p
  good : goodB p = true
  fit : Fit p
  small : (encP p).length ≤ 900
  kids : p.leaf = false → 2 ≤ p.kids.length
  few : p.keys.length ≤ 127
  ps : Ps p.kids
theorem seg_flat {α : Type} {f : Nat → List α} {h : Seg → List α} {S : List Seg} (q : ∀ (j : Nat) (s : Seg), S[j]? = some s → f s.n = h s) : (S.map (·.n)).flatMap f = S.flatMap h := by
  induction S with
  | nil => rfl
  | cons s S ih =>
    simp only [List.map_cons, List.flatMap_cons]
    rw [q 0 s rfl, ih (fun j t hj => q (j + 1) t (by simpa using hj))]
theorem pages_all {sh : List Pg} (hs : sh.length ≤ 9223372036854775807) : ∀ (r lv k : Nat) (L : List It) (f : Nat), Tr sh r k L f → Uf sh r k → L.length ≤ 127 →
    (∀ x ∈ pagesL r lv sh k, (∃ p, PgW sh x.1 p) ∧ x.2 + 1 ≤ lv + r) ∧ (pagesL r lv sh k).flatMap (fun x => lk sh x.1) = L.map (·.1) ∧ ∃ x ∈ pagesL r lv sh k, x.2 + 1 = lv + r
  | 0, _, _, _, _, h, _, _ => False.elim h
  | r + 1, lv, k, L, f, h, u, hL => by
    obtain ⟨r', p, e, hk, g, ft, few, ps, cs⟩ := h.top hL hs
    cases e
    obtain ⟨p', hk', uf⟩ := u
    have ep : p = p' := Option.some.inj (hk.symm.trans hk')
    subst ep
    rw [pagesL_at hk]
    rcases cs with ⟨lf, eL, en⟩ | ⟨lf, k1, S, e1, eL, bt⟩
    · have r0 : r = 0 := by
        rcases uf with ⟨q, _⟩ | ⟨q, _⟩
        · exact q
        · rw [lf] at q; cases q
      obtain ⟨g1, g2⟩ := goodB_leaf g lf
      rw [g2]
      simp only [List.flatMap_nil]
      refine ⟨fun x hx => ?_, ?_, (k, lv), by simp, by rw [r0]⟩
      · simp at hx
        subst hx
        exact ⟨⟨p, hk, g, ft, en, fun q => (by rw [lf] at q; cases q), few, ps⟩, by first | omega | (simp; done) | (simp; omega)⟩
      · simp only [List.flatMap_cons, List.flatMap_nil, List.append_nil]
        rw [lk_at hk, lf, if_pos rfl, eL, zipK_fst _ _ g1]
    · obtain ⟨en, ku⟩ : (encP p).length ≤ 900 ∧ ∀ k ∈ p.kids, Uf sh r k := by
        rcases uf with ⟨_, q⟩ | ⟨_, q1, q2⟩
        · rw [lf] at q; cases q
        · exact ⟨q1, q2⟩
      have sl : ∀ (j : Nat) (s : Seg), S[j]? = some s → s.L.length ≤ 127 := fun j s hj => by
        have q := lall_at hj
        have q2 := congrArg List.length q
        simp only [List.length_append] at q2
        rw [eL] at hL
        omega
      have IH : ∀ (j : Nat) (s : Seg), S[j]? = some s → _ := fun j s hj => pages_all hs r (lv + 1) s.n s.L s.f (bt.ok j s hj).1 (ku s.n (by rw [e1]; exact List.mem_map.2 ⟨s, List.mem_of_getElem? hj, rfl⟩)) (sl j s hj)
      have kl : 2 ≤ p.kids.length := by rw [e1, List.length_map, bt.len]; omega
      have inS : ∀ y, y ∈ p.kids.flatMap (pagesL r (lv + 1) sh) → ∃ (j : Nat) (s : Seg), S[j]? = some s ∧ y ∈ pagesL r (lv + 1) sh s.n := fun y hy => by
        obtain ⟨a, ha, hy⟩ := List.mem_flatMap.1 hy
        rw [e1] at ha
        obtain ⟨s, hs', rfl⟩ := List.mem_map.1 ha
        obtain ⟨j, hj, e⟩ := List.mem_iff_getElem.1 hs'
        exact ⟨j, s, by rw [← e]; exact List.getElem?_eq_getElem hj, hy⟩
      refine ⟨fun x hx => ?_, ?_, ?_⟩
      · rcases List.mem_cons.1 hx with rfl | hx
        · exact ⟨⟨p, hk, g, ft, en, fun _ => kl, few, ps⟩, by simp only; omega⟩
        · obtain ⟨j, s, hj, hy⟩ := inS x hx
          have q := (IH j s hj).1 x hy
          exact ⟨q.1, by omega⟩
      · rw [List.flatMap_cons, lk_at hk, lf]
        simp only [Bool.false_eq_true, if_false, List.nil_append]
        rw [e1, List.flatMap_assoc, seg_flat (h := fun s => s.L.map (·.1)) (fun j s hj => (IH j s hj).2.1), eL]
        unfold lall
        rw [List.map_flatMap]
      · obtain ⟨s, hj⟩ : ∃ s, S[0]? = some s := ⟨_, List.getElem?_eq_getElem (by have := bt.len; omega)⟩
        obtain ⟨x, hx, ex⟩ := (IH 0 s hj).2.2
        refine ⟨x, List.mem_cons_of_mem _ (List.mem_flatMap.2 ⟨s.n, ?_, hx⟩), by omega⟩
        rw [e1]
        exact List.mem_map.2 ⟨s, List.mem_of_getElem? hj, rfl⟩
theorem foldl_max (l : List Nat) : ∀ a, (∀ x ∈ l, x ≤ l.foldl max a) ∧ a ≤ l.foldl max a ∧ (l.foldl max a = a ∨ l.foldl max a ∈ l) := by
  induction l with
  | nil => exact fun a => ⟨fun x hx => by simp at hx, Nat.le_refl _, Or.inl rfl⟩
  | cons y l ih =>
    intro a
    obtain ⟨h1, h2, h3⟩ := ih (max a y)
    rw [List.foldl_cons]
    have m1 : a ≤ max a y := Nat.le_max_left _ _
    have m2 : y ≤ max a y := Nat.le_max_right _ _
    refine ⟨fun x hx => ?_, by omega, ?_⟩
    · rcases List.mem_cons.1 hx with rfl | hx
      · omega
      · exact h1 x hx
    · rcases h3 with q | q
      · rcases Nat.le_total a y with c | c
        · rw [q, Nat.max_eq_right c]; exact Or.inr (List.mem_cons_self ..)
        · rw [q, Nat.max_eq_left c]; exact Or.inl rfl
      · exact Or.inr (List.mem_cons_of_mem _ q)
theorem dmax_is {t : List (Nat × Nat)} {d : Nat} (h : ∀ x ∈ t, x.2 ≤ d) (k : ∃ x ∈ t, x.2 = d) : dmax t = d := by
  unfold dmax
  obtain ⟨h1, h2, h3⟩ := foldl_max (t.map (·.2)) 0
  obtain ⟨x, hx, e⟩ := k
  have q := h1 x.2 (List.mem_map.2 ⟨x, hx, rfl⟩)
  rcases h3 with q3 | q3
  · omega
  · obtain ⟨y, hy, e2⟩ := List.mem_map.1 q3
    have := h y hy
    omega
/-- All of a tree's pages. -/
theorem Ust.pages {sh : List Pg} {root : Nat} {L : List It} {d f a : Nat} (h : Ust sh root L d f a) (ha : a ≤ 120) : (∀ x ∈ pagesR d sh root, ∃ p, PgW sh x.1 p) ∧ (pagesR d sh root).flatMap (fun x => lk sh x.1) = L.map (·.1) ∧ dmax (pagesR d sh root) = d ∧ (root = 0 ↔ d = 0) := by
  have l := h.st.len
  have s := h.st.size
  unfold pagesR
  by_cases z : root = 0
  · rw [if_pos z, h.nil z, h.st.rt.none z]
    exact ⟨fun x hx => by simp at hx, rfl, rfl, fun _ => rfl, fun _ => z⟩
  · rw [if_neg z]
    have tr := h.st.rt.some z
    obtain ⟨q1, q2, x, hx, ex⟩ := pages_all (by omega) d 1 root L f tr (h.uf z) (by omega)
    refine ⟨fun x hx => (q1 x hx).1, q2, dmax_is (fun x hx => by have := (q1 x hx).2; omega) ⟨x, hx, by omega⟩, fun e => absurd e z, fun e => ?_⟩
    subst e
    exact False.elim tr
/-- Keys rise: the next is behind the last. -/
theorem keys_rise {L : List It} (h : Srt L) {a c : List ByteArray} {x : ByteArray} (e : a ++ x :: c = L.map (·.1)) (hx : 1 ≤ x.size) : ltS (a.getLast?.getD ByteArray.empty) x = true := by
  cases q : a.getLast? with
  | none =>
    simp only [Option.getD_none]
    unfold ltS
    have e2 : ByteArray.empty.toList = [] := nil_empty.2 rfl
    rw [e2]
    cases e3 : x.toList with
    | nil =>
      have := nil_empty.1 e3
      rw [this] at hx
      exact absurd hx (by decide)
    | cons => rfl
  | some y =>
    simp only [Option.getD_some]
    have p : List.Pairwise (fun a b : ByteArray => ltS a b = true) (L.map (·.1)) := by
      rw [List.pairwise_map]
      exact h
    rw [← e, List.pairwise_append] at p
    exact p.2.2 y (List.mem_of_getLast? q) x (List.mem_cons_self ..)

end Go.Proofs.Ythdjghmipepppaa

namespace Go.Proofs.Ythdjghmipepppaa
open Go.RowKit Go.Shelf
set_option linter.unusedVariables false
set_option linter.unusedSimpArgs false
attribute [local go_sem] Oper.semAt_some

/-- While a page's kids are gone through. -/
structure Lv (w wr : World) (P B : Nat) (sl : Value) (vs : List V4) (sh : List Pg) (n : Nat) (lf : Bool) (kk vv ii : Value) (p : Pg) : Prop where
  box : Bq wr B (.bool lf) kk vv ii
  pv : Pv wr (.agg #[.bool lf, kk, vv, ii]) p
  shf : Shf wr P sl vs sh 0 n
  gw : Gw w wr P none
theorem Lv.next {w wr wx : World} {P B : Nat} {sl : Value} {vs : List V4} {sh : List Pg} {n n' : Nat} {lf : Bool} {kk vv ii : Value} {p : Pg} (h : Lv w wr P B sl vs sh n lf kk vv ii p) (hk : Ps p.kids) (hB : B ≠ P) (s : Shf wx P sl vs sh 0 n') (g : Gw wr wx P none) : Lv w wx P B sl vs sh n' lf kk vv ii p :=
  ⟨h.box.gw g hB (by simp), h.pv.gw hk g h.shf.ntP (fun b hb => by cases hb), s, h.gw.trans g (Or.inl rfl)⟩
theorem Pv.kidsSl {w : World} {lf : Bool} {ka : Option Addr} {kn kc : Nat} {va : Option Addr} {vn vc : Nat} {ia : Option Addr} {im ic : Nat} {p : Pg} (q : Pv w (.agg #[.bool lf, .slice ka kn kc, .slice va vn vc, .slice ia im ic]) p) : lf = p.leaf ∧ Sl w ka kn kc (sv p.keys) ∧ Sl w ia im ic (kv p.kids) := by
  obtain ⟨_, _, _, _, _, _, _, _, _, e1, k1, k2, k3⟩ := q.ex
  injection e1 with e1
  have e2 := congrArg Array.toList e1
  simp only [List.cons.injEq] at e2
  obtain ⟨e5, e4, e3, e6, _⟩ := e2
  injection e5 with e5
  injection e6 with q7 q8 q9
  injection e4 with q4 q5 q6
  subst q7 q8 q9 q4 q5 q6
  exact ⟨e5, k1, k3⟩
def LevOk (P : Nat) (sl : Value) (vs : List V4) (sh : List Pg) (r : Nat) : Prop :=
  ∀ (k n : Nat) (L : List It) (f : Nat) (w : World), Shf w P sl vs sh 0 n → Tr sh r k L f → Uf sh r k → L.length ≤ 127 → r ≤ 100 → n + r * L.length ≤ 800000000 →
    Calls Try.prog 29 #[.pointer (some ⟨P, 0, none⟩), .int .u64 (k : Nat), .int .i64 (r : Nat)] w fun e w' => e = .returned (.bool true) ∧ ∃ n', Shf w' P sl vs sh 0 n' ∧ Gw w w' P none ∧ n' ≤ n + r * L.length
set_option maxRecDepth 100000 in
set_option maxHeartbeats 16000000 in
theorem level_next (P : Nat) (sl : Value) (vs : List V4) (sh : List Pg) (hs : sh.length ≤ 1000000) (r : Nat) (ih : LevOk P sl vs sh r) : LevOk P sl vs sh (r + 1) := by
  have IH : Hid _ := ih
  clear ih
  intro k n L f w s tr uf hL hr hn
  obtain ⟨r', p, e_r, hk, g, ft, nk, ps, cs⟩ := tr.top hL (by omega)
  cases e_r
  have l1 : 1 ≤ L.length := List.length_pos_iff.2 tr.ne
  have m1 : (r + 1) * L.length = r * L.length + L.length := Nat.succ_mul _ _
  have hkn := tr.num
  have K : Hid _ := sPage_ok P sl vs sh 0 n k p w s (by omega) (by omega) (by omega) hk (by omega)
  have SP : Hid (P < w.heap.size) := s.lt
  have PS : Hid _ := ps
  have CS : Hid (∃ S, p.kids = S.map (·.n) ∧ (lall S).length ≤ L.length ∧ ∀ (j : Nat) (s : Seg), S[j]? = some s → Tr sh r s.n s.L s.f) := by
    rcases cs with ⟨q, _⟩ | ⟨_, _, S, q1, q2, q3⟩
    · exact ⟨[], by rw [(goodB_leaf g q).2]; rfl, by simp [lall], fun j s hj => by simp at hj⟩
    · exact ⟨S, q1, by rw [q2]; exact Nat.le_refl _, fun j s hj => (q3.ok j s hj).1⟩
  have UF : Hid ((p.leaf = true → r = 0) ∧ (p.leaf = false → ∀ k ∈ p.kids, Uf sh r k)) := by
    obtain ⟨p', hk', u⟩ := uf
    have ep : p = p' := Option.some.inj (hk.symm.trans hk')
    subst ep
    rcases u with ⟨q1, q2⟩ | ⟨q1, _, q2⟩
    · exact ⟨fun _ => q1, fun q => (by rw [q2] at q; cases q)⟩
    · exact ⟨fun q => (by rw [q1] at q; cases q), fun _ => q2⟩
  have HL : Hid _ := hL
  have NN : Hid _ := hn
  have M1 : Hid _ := m1
  have L1 : Hid _ := l1
  have fk : p.kids.length ≤ 2001 := ft.kids
  have k1 : (k : Int) ≤ 1000000 := by omega
  have k2 : ¬ (k : Int) = 0 := by omega
  have k3 : ((k : Int) == 0) = false := by simpa using k2
  have ob : Hid _ := s.newer
  clear s tr uf hL hn hk g ft nk ps cs l1 m1 hs
  go_enter Try.func29, Try.ntmps29
  go_wp2_with fail
  refine Calls.mono K.out ?_
  rintro e w2 ⟨x, rfl, hm', pv', s2', g2'⟩
  have pv : Hid _ := pv'
  have S2 : Hid _ := s2'
  have G2 : Hid _ := g2'
  clear pv' s2' g2' hm' K
  obtain ⟨lf, ka, kn, kc, va, vn, vc, ia, im, ic⟩ := x
  dsimp only [V4.agg] at pv ⊢
  have b3 : Hid _ := allocB w2 (.cells #[.bool lf, .slice ka kn kc, .slice va vn vc, .slice ia im ic] 54)
  have BP : Hid (w2.heap.size ≠ P) := (by have := S2.out.lt; omega : w2.heap.size ≠ P)
  have Y : Hid (Lv w (w2.alloc (.cells #[.bool lf, .slice ka kn kc, .slice va vn vc, .slice ia im ic] 54)) P w2.heap.size sl vs sh (n + 1) lf (.slice ka kn kc) (.slice va vn vc) (.slice ia im ic) p) := ⟨Bq.new w2 _ _ _ _ _, pv.out.below b3.out, S2.out.below b3.out, Gw.next G2.out b3.out⟩
  go_upto_region 4 with fail
  generalize w2.alloc (.cells #[.bool lf, .slice ka kn kc, .slice va vn vc, .slice ia im ic] 54) = w3 at *
  clear pv S2 G2 b3
  obtain ⟨y0, y1, y2, y3⟩ := Y.out.box.b4
  generalize w2.heap.size = B at *
  obtain ⟨el', _, k3'⟩ := Y.out.pv.kidsSl
  have el : Hid _ := el'
  clear el'
  have l3 := k3'.klen
  clear k3'
  cases lf with
  | true =>
    have r0 := UF.out.1 el.out.symm
    subst r0
    go_wp2
    go_ret
    exact ⟨rfl, n + 1, Y.out.shf, Y.out.gw, by have := M1.out; have := L1.out; omega⟩
  | false =>
    obtain ⟨S, EK', SL', ST'⟩ := CS.out
    have EK : Hid _ := EK'
    have SL : Hid _ := SL'
    have ST : Hid _ := ST'
    have hkl : p.kids.length = S.length := by rw [EK', List.length_map]
    have UK : Hid _ := UF.out.2 el.out.symm
    clear EK' SL' ST' CS UF
    go_upto_region 7 with fail
    clear y0 y1 y2 y3
    go_loopg [9] im (fun g iv wr => ∃ (i n' : Nat), i ≤ im ∧ g = im - i ∧ iv = .int .i64 (i : Nat) ∧ Hid (Lv w wr P B sl vs sh n' false (.slice ka kn kc) (.slice va vn vc) (.slice ia im ic) p) ∧ Hid (n' ≤ n + 1 + r * (lall (S.take i)).length))
    case atStart => exact ⟨0, n + 1, by omega, by omega, rfl, Y.out, Nat.le_add_right _ _⟩
    case round =>
      obtain ⟨i, n', hi, rfl, rfl, V, N⟩ := hrel
      have SK := V.out.pv.kidsSl.2.2
      obtain ⟨y0, y1, y2, y3⟩ := V.out.box.b4
      have TL : Hid (r * (lall (S.take i)).length ≤ r * L.length) := Nat.mul_le_mul_left r (Nat.le_trans (take_len _) SL.out)
      by_cases c : i < im
      · have c' : (i : Int) < (im : Int) := by omega
        obtain ⟨kb, ko, rfl, _⟩ := SK.at (by omega)
        obtain ⟨s, hsi⟩ : ∃ s, S[i]? = some s := ⟨_, List.getElem?_eq_getElem (by omega)⟩
        have gd : p.kids.getD i 0 = s.n := by rw [EK.out]; exact getD_map hsi
        have kcell : wr.cell? ⟨kb, ko + i, none⟩ = some (.int .u64 (s.n : Nat)) := by rw [← gd]; exact SK.num (by omega)
        have tr : Hid _ := ST.out _ s hsi
        have LN : Hid ((lall (S.take (i + 1))).length = (lall (S.take i)).length + s.L.length ∧ (lall (S.take (i + 1))).length ≤ L.length) := ⟨by rw [lall_next hsi, List.length_append], Nat.le_trans (take_len _) SL.out⟩
        have LN2 : Hid (r * (lall (S.take (i + 1))).length = r * (lall (S.take i)).length + r * s.L.length ∧ r * (lall (S.take (i + 1))).length ≤ r * L.length) := ⟨by rw [LN.out.1, Nat.mul_add], Nat.mul_le_mul_left r LN.out.2⟩
        have uk : Hid (Uf sh r s.n) := UK.out s.n (by rw [EK.out]; exact List.mem_map.2 ⟨s, List.mem_of_getElem? hsi, rfl⟩)
        have IHX : Hid _ := IH.out s.n n' s.L s.f wr V.out.shf tr.out uk.out (by have := LN.out; have := HL.out; omega) (by omega) (by have := N.out; have := LN2.out; have := NN.out; have := M1.out; have := L1.out; omega)
        have zr : ((r : Int) + 1) - 1 = (r : Int) := by omega
        clear SK hsi gd
        go_wp2_with fail
        refine Calls.mono IHX.out ?_
        rintro e w8 ⟨rfl, n8, s8, g8, m8⟩
        have V8 : Hid _ := V.out.next PS.out BP.out s8 g8
        have N8 : Hid (n8 ≤ n + 1 + r * (lall (S.take (i + 1))).length) := (by have := N.out; have := LN2.out; omega : n8 ≤ n + 1 + r * (lall (S.take (i + 1))).length)
        clear s8 g8 m8 V IHX kcell y0 y1 y2 y3
        go_wp2
        go_roundg (im - (i + 1))
        case measure => omega
        case rel => exact ⟨i + 1, n8, by omega, rfl, by go_num, V8.out, N8.out⟩
      · obtain rfl : im = i := by omega
        clear SK
        go_wp2
        go_ret
        exact ⟨rfl, n', V.out.shf, V.out.gw, by have := N.out; have := TL.out; have := M1.out; have := L1.out; omega⟩
theorem level_any (P : Nat) (sl : Value) (vs : List V4) (sh : List Pg) (hs : sh.length ≤ 1000000) : ∀ r, LevOk P sl vs sh r
  | 0 => fun k n L f w _ tr => False.elim tr
  | r + 1 => level_next P sl vs sh hs r (level_any P sl vs sh hs r)

end Go.Proofs.Ythdjghmipepppaa

namespace Go.Proofs.Ythdjghmipepppaa
open Go.RowKit Go.Shelf
set_option linter.unusedVariables false
set_option linter.unusedSimpArgs false
attribute [local go_sem] Oper.semAt_some

set_option maxRecDepth 100000 in
theorem level_zero (P : Value) (w : World) : Calls Try.prog 29 #[P, .int .u64 0, .int .i64 0] w fun e w' => e = .returned (.bool true) ∧ w = w' := by
  go_enter Try.func29, Try.ntmps29
  go_wp2
  go_ret
  exact ⟨rfl, rfl⟩
theorem Ust.start : Ust [] 0 [] 0 0 0 := ⟨Stt.start, fun h => absurd rfl h, fun _ => rfl⟩
theorem Ust.skip {sh : List Pg} {root : Nat} {L : List It} {d f a : Nat} (h : Ust sh root L d f a) : Ust sh root L d f (a + 1) := ⟨h.st.skip, h.uf, h.nil⟩
theorem pagesR_len {sh : List Pg} {root : Nat} {L : List It} {d f : Nat} (h : Rt sh root L d f) : (pagesR d sh root).length ≤ d * L.length := by
  unfold pagesR
  by_cases z : root = 0
  · rw [if_pos z]; exact Nat.zero_le _
  · rw [if_neg z]; exact pagesL_len d 1 sh root L f (h.some z)
theorem own_gw {w w' : World} {P base : Nat} {e : TypeId} {k : Nat} {v : Value} {n : Nat} {xs : List Value} (h : w.ownsRow base e k v n xs) (g : Gw w w' P none) (hP : P < base) : w'.ownsRow base e k v n xs :=
  ownsRow_kept h (fun b hb => g.block b (h.lt b hb).2 (by have := (h.lt b hb).1; omega) (by simp))
theorem flat_more {sh : List Pg} {l : List (Nat × Nat)} {j : Nat} {x : Nat × Nat} (h : l[j]? = some x) : (l.take (j + 1)).flatMap (fun x => lk sh x.1) = (l.take j).flatMap (fun x => lk sh x.1) ++ lk sh x.1 := by
  rw [List.take_add_one, h, List.flatMap_append]
  simp
theorem flat_rest {sh : List Pg} {l : List (Nat × Nat)} {j : Nat} {x : Nat × Nat} (h : l[j]? = some x) : l.flatMap (fun x => lk sh x.1) = (l.take j).flatMap (fun x => lk sh x.1) ++ (lk sh x.1 ++ (l.drop (j + 1)).flatMap (fun x => lk sh x.1)) := by
  have q := List.take_append_drop (j + 1) l
  conv => lhs; rw [← q, List.flatMap_append, flat_more h]
  rw [List.append_assoc]
/-- The last key so far. -/
def lst (sh : List Pg) (l : List (Nat × Nat)) (j : Nat) (ks : List ByteArray) (k : Nat) : ByteArray := ((l.take j).flatMap (fun x => lk sh x.1) ++ ks.take k).getLast?.getD ByteArray.empty
theorem lst_next {sh : List Pg} {l : List (Nat × Nat)} {j : Nat} {ks : List ByteArray} {k : Nat} {x : ByteArray} (h : ks[k]? = some x) : lst sh l j ks (k + 1) = x := by
  unfold lst
  rw [List.take_add_one, h, ← List.append_assoc]
  simp
theorem lst_page {ks : List ByteArray} {sh : List Pg} {l : List (Nat × Nat)} {j : Nat} {x : Nat × Nat} (h : l[j]? = some x) (e : lk sh x.1 = ks) : lst sh l (j + 1) [] 0 = lst sh l j ks ks.length := by
  unfold lst
  rw [flat_more h, e, List.take_length]
  simp
theorem lst_less {sh : List Pg} {l : List (Nat × Nat)} {j : Nat} {x : Nat × Nat} {L : List It} {k : Nat} {y : ByteArray} {ks : List ByteArray} (h : l[j]? = some x) (e : lk sh x.1 = ks) (q : l.flatMap (fun x => lk sh x.1) = L.map (·.1)) (s : Srt L) (hy : ks[k]? = some y) (hs : 1 ≤ y.size) : ltS (lst sh l j ks k) y = true := by
  have hl := lt_of_some hy
  have e2 : ks = ks.take k ++ y :: ks.drop (k + 1) := by
    have q1 := List.take_append_drop k ks
    have q2 : ks.drop k = y :: ks.drop (k + 1) := by
      rw [List.drop_eq_getElem_cons hl]
      rw [List.getElem?_eq_getElem hl] at hy
      rw [Option.some.inj hy]
    rw [q2] at q1
    exact q1.symm
  have q3 := flat_rest (sh := sh) h
  rw [e, q] at q3
  refine keys_rise (L := L) (a := (l.take j).flatMap (fun x => lk sh x.1) ++ ks.take k) (c := ks.drop (k + 1) ++ (l.drop (j + 1)).flatMap (fun x => lk sh x.1)) s ?_ hs
  rw [q3]
  conv => rhs; rw [e2]
  simp only [List.append_assoc, List.cons_append]
theorem Lv.low {w wr wx : World} {P B : Nat} {sl : Value} {vs : List V4} {sh : List Pg} {n : Nat} {lf : Bool} {kk vv ii : Value} {p : Pg} (h : Lv w wr P B sl vs sh n lf kk vv ii p) (b : Below wr.heap.size wr wx) : Lv w wx P B sl vs sh n lf kk vv ii p :=
  ⟨h.box.below b, h.pv.below b, h.shf.below b, Gw.next h.gw b⟩
theorem pgAt_lt {sh : List Pg} {n : Nat} {p : Pg} (h : pgAt sh n = some p) : n ≤ sh.length := by
  unfold pgAt at h
  split at h
  · cases h
  · have := lt_of_some h
    omega

end Go.Proofs.Ythdjghmipepppaa

