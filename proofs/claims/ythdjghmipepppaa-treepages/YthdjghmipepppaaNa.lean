/- The collector goes down. Range of a tree. -/
import Derived.Test.YthdjghmipepppaaMz
namespace Go.Proofs.Ythdjghmipepppaa
open Go.RowKit Go.Shelf
set_option linter.unusedVariables false
set_option linter.unusedSimpArgs false
attribute [local go_sem] Oper.semAt_some

theorem Pv.fr {w w' : World} {P C : Nat} {o : Option Nat} {v : Value} {p : Pg} (h : Pv w v p) (hp : Ps p.kids) (f : Fr w w' P C o) (nP : NT w P) (oC : Off v C) (oo : ∀ g, o = some g → Off v g) : Pv w' v p := by
  obtain ⟨ka, kn, kc, va, vn, vc, ia, im, ic, e, k1, k2, k3⟩ := h.ex
  obtain ⟨a1, a2, a3⟩ := oC _ _ _ _ _ _ _ _ _ _ e
  refine ⟨⟨ka, kn, kc, va, vn, vc, ia, im, ic, e, k1.kept fun hn x hx => f.block x.block (k1.old hn x hx) (nP.offS k1 hn x hx) (a1 x hn hx) (fun q => ?_), k2.kept fun hn x hx => f.block x.block (k2.old hn x hx) (nP.offS k2 hn x hx) (a2 x hn hx) (fun q => ?_), k3.kept fun hn x hx => f.block x.block (k3.old hn x hx) (nP.offK k3 hp hn x hx) (a3 x hn hx) (fun q => ?_)⟩, h.kid⟩
  · exact (oo x.block q.symm _ _ _ _ _ _ _ _ _ _ e).1 x hn hx rfl
  · exact (oo x.block q.symm _ _ _ _ _ _ _ _ _ _ e).2.1 x hn hx rfl
  · exact (oo x.block q.symm _ _ _ _ _ _ _ _ _ _ e).2.2 x hn hx rfl
theorem Col.read {w w' : World} {C P rd n : Nat} {a b : ByteArray} {m : Int} {v : Value} {acc : List It} {sl : Value} {vs : List V4} {sh : List Pg} (h : Col w C P rd a b m v acc) (r : Rd7 w w' C P sl vs sh 0 n (rd + 1)) (hP : P < C) : Col w' C P (rd + 1) a b m v acc := by
  refine ⟨r.rdr, (r.cell 2 (by decide)).trans h.c2, (r.cell 3 (by decide)).trans h.c3, (r.cell 4 (by decide)).trans h.c4, (r.cell 5 (by decide)).trans h.c5, ⟨h.own.1, ?_⟩⟩
  rcases h.own.2 with hn | ⟨g, cap, cur, hv, hb, hg, rest⟩
  · exact .inl hn
  · exact .inr ⟨g, cap, cur, hv, hb, by rw [r.gw.block g (Array.getElem?_eq_some_iff.1 hg).1 (by omega) (fun e => by have := Option.some.inj e; omega)]; exact hg, rest⟩
/-- What collecting leaves. -/
def ColP (w w' : World) (C P : Nat) (a b : ByteArray) (m : Int) (sl : Value) (vs : List V4) (sh : List Pg) (r rd n : Nat) (L : List It) (v : Value) (acc : List It) (e : Ending) : Prop :=
  e = .returned (.int .i64 0) ∧ ∃ v' rd' n', Col w' C P rd' a b m v' (cutL a b m acc L) ∧ Shf w' P sl vs sh 0 n' ∧ Fr w w' P C v.ownBlock ∧ Nw w v.ownBlock v'.ownBlock ∧ rd' ≤ rd + r * L.length ∧ n ≤ n' ∧ n' ≤ n + r * L.length
def ColOk (C P : Nat) (a b : ByteArray) (m : Int) (sl : Value) (vs : List V4) (sh : List Pg) (r : Nat) : Prop :=
  ∀ (k lv rd n : Nat) (L : List It) (f : Nat) (v : Value) (acc : List It) (w : World), Col w C P rd a b m v acc → Shf w P sl vs sh 0 n → Tr sh r k L f → L.length ≤ 127 → lv + r ≤ 21 → rd + r * L.length ≤ 4096 → acc.length + L.length ≤ 1000 → n + r * L.length ≤ 800000000 →
    Calls Try.prog 38 #[.pointer (some ⟨C, 0, none⟩), .int .u64 (k : Nat), .int .i64 (lv : Nat)] w fun e w' => ColP w w' C P a b m sl vs sh r rd n L v acc e
/-- While a branch is gone through. -/
structure Bk (w wr : World) (C P B : Nat) (a b : ByteArray) (m : Int) (sl : Value) (vs : List V4) (sh : List Pg) (rd n : Nat) (lf : Bool) (kk vv ii : Value) (p : Pg) (o0 : Option Nat) (v : Value) (acc : List It) : Prop where
  col : Col wr C P rd a b m v acc
  box : Bq wr B (.bool lf) kk vv ii
  pv : Pv wr (.agg #[.bool lf, kk, vv, ii]) p
  shf : Shf wr P sl vs sh 0 n
  fr : Fr w wr P C o0
  no : Nw w o0 v.ownBlock
  ne : v.ownBlock ≠ some B
theorem Bk.below {w wr wx : World} {C P B rd n : Nat} {a b : ByteArray} {m : Int} {sl : Value} {vs : List V4} {sh : List Pg} {lf : Bool} {kk vv ii : Value} {p : Pg} {o0 : Option Nat} {v : Value} {acc : List It} (h : Bk w wr C P B a b m sl vs sh rd n lf kk vv ii p o0 v acc) (k : Below wr.heap.size wr wx) : Bk w wx C P B a b m sl vs sh rd n lf kk vv ii p o0 v acc :=
  ⟨h.col.below k, h.box.below k, h.pv.below k, h.shf.below k, h.fr.below k, h.no, h.ne⟩
theorem Bk.next {w wr wx : World} {C P B rd n rd' n' : Nat} {a b : ByteArray} {m : Int} {sl : Value} {vs : List V4} {sh : List Pg} {lf : Bool} {kk vv ii : Value} {p : Pg} {o0 : Option Nat} {v v' : Value} {acc acc' : List It} (h : Bk w wr C P B a b m sl vs sh rd n lf kk vv ii p o0 v acc) (hk : Ps p.kids) (hP : P ≠ B) (hC : C ≠ B) (hy : ∀ B, C ≤ B → Off (.agg #[.bool lf, kk, vv, ii]) B)
    (c : Col wx C P rd' a b m v' acc') (s : Shf wx P sl vs sh 0 n') (f : Fr wr wx P C v.ownBlock) (nw : Nw wr v.ownBlock v'.ownBlock) : Bk w wx C P B a b m sl vs sh rd' n' lf kk vv ii p o0 v' acc' := by
  have og : ∀ g', v.ownBlock = some g' → C + 1 ≤ g' := fun g' e => (h.col.own.lt g' e).1
  refine ⟨c, h.box.kept (f.block B h.box.lt (Ne.symm hP) (Ne.symm hC) (fun e => h.ne e.symm)), h.pv.fr hk f h.shf.ntP (hy C (Nat.le_refl _)) (fun g e => hy g (by have := og g e; omega)), s, h.fr.trans f h.no, h.no.trans nw h.fr.size, fun e => ?_⟩
  rcases nw with q | ⟨g, q, hg⟩
  · exact h.ne (by rw [← q]; exact e)
  · rw [q] at e
    have := Option.some.inj e
    have := h.box.lt
    omega
theorem take_len {S : List Seg} (j : Nat) : (lall (S.take j)).length ≤ (lall S).length := by
  conv => rhs; rw [← List.take_append_drop j S, lall_app, List.length_append]
  omega

set_option maxRecDepth 100000 in
set_option maxHeartbeats 16000000 in
theorem collect_next (C P : Nat) (a b : ByteArray) (m : Int) (sl : Value) (vs : List V4) (sh : List Pg) (hP : P < C) (hsl : ∀ B, C ≤ B → sl.ownBlock ≠ some B) (hoff : ∀ B, C ≤ B → OffV vs B) (hs : sh.length ≤ 9223372036854775807) (r : Nat) (ih : ColOk C P a b m sl vs sh r) : ColOk C P a b m sl vs sh (r + 1) := by
  have IH : Hid _ := ih
  clear ih
  intro k lv rd n L f v acc w h s tr hL hlv hrd hac hn
  obtain ⟨r', p, e_r, hk, g, ft, nk, ps, cs⟩ := tr.top hL hs
  cases e_r
  have l1 : 1 ≤ L.length := List.length_pos_iff.2 tr.ne
  have m1 : (r + 1) * L.length = r * L.length + L.length := Nat.succ_mul _ _
  have hkn := tr.num
  have K : Hid _ := Gpage_ok C P sl vs sh 0 n k rd lv p w s h.rdr (by omega) (by omega) (by omega) hk hs (by omega) (hsl C (Nat.le_refl _)) (hoff C (Nat.le_refl _)) (by omega) (by omega) g ft.bd
  have H : Hid _ := h
  have HS : Hid _ := hsl
  have HO : Hid _ := hoff
  have GG : Hid _ := g
  have FT : Hid _ := ft
  have NK : Hid _ := nk
  have PS : Hid _ := ps
  have CS : Hid _ := cs
  have HC : Hid _ := h.rdr.lt
  have HL : Hid _ := hL
  have LV : Hid _ := hlv
  have RD : Hid _ := hrd
  have AC : Hid _ := hac
  have NN : Hid _ := hn
  have M1 : Hid _ := m1
  have L1 : Hid _ := l1
  have lv1 : (lv : Int) ≤ 20 := by omega
  have k1 : (k : Int) ≤ 9223372036854775807 := by omega
  clear h s tr hL hlv hrd hac hn hk g ft nk ps cs l1 m1 hsl hoff hkn
  go_enter Try.func38, Try.ntmps38
  go_wp2_with fail
  refine Calls.mono K.out ?_
  rintro e w2 ⟨x, rfl, hm', pv', R2'⟩
  have R2 : Hid _ := R2'
  have pv : Hid _ := pv'
  have hm : Hid _ := hm'
  have C2 : Hid _ := H.out.read R2' hP
  have HY : Hid (∀ B, C ≤ B → Off x.agg B) := fun B hB => HO.out B hB x hm'
  have xl : Hid (x.lf = p.leaf) := (by obtain ⟨ka, kn, kc, va, vn, vc, ia, im, ic, e, _⟩ := pv.out.ex; unfold V4.agg at e; simp at e; exact e.1 : x.lf = p.leaf)
  clear R2' pv' hm' K
  have W2 : Hid (w.heap.size ≤ w2.heap.size) := R2.out.gw.size
  obtain ⟨lf, ka, kn, kc, va, vn, vc, ia, im, ic⟩ := x
  dsimp only [V4.agg] at pv hm HY xl ⊢
  have b3 : Hid _ := allocB w2 (.cells #[.bool lf, .slice ka kn kc, .slice va vn vc, .slice ia im ic] 54)
  have B3 : Hid (Bk w (w2.alloc (.cells #[.bool lf, .slice ka kn kc, .slice va vn vc, .slice ia im ic] 54)) C P w2.heap.size a b m sl vs sh (rd + 1) (n + 1) lf (.slice ka kn kc) (.slice va vn vc) (.slice ia im ic) p v.ownBlock v acc) :=
    ⟨C2.out.below b3.out, Bq.new w2 _ _ _ _ _, pv.out.below b3.out, R2.out.shf.below b3.out, (((Fr.refl w P C _).gw R2.out.gw).below b3.out), Or.inl rfl, fun e => by have := (C2.out.own.lt _ e).2; omega⟩
  go_upto_region 4 with fail
  generalize w2.alloc (.cells #[.bool lf, .slice ka kn kc, .slice va vn vc, .slice ia im ic] 54) = w3 at *
  clear C2 R2 pv
  obtain ⟨y0, y1, y2, y3⟩ := B3.out.box.b4
  cases hlf : p.leaf with
  | true =>
    rw [hlf] at xl
    have ex := xl.out
    subst ex
    have EL : Hid (L = zipK p.keys p.vals) := by
      rcases CS.out with ⟨_, q, _⟩ | ⟨q, _⟩
      · exact q
      · rw [hlf] at q; cases q
    have T : Hid _ := take_any C P (rd + 1) a b m v acc sl vs sh (n + 1) ⟨true, ka, kn, kc, va, vn, vc, ia, im, ic⟩ p w3 B3.out.col B3.out.shf hP HS.out HO.out hm.out B3.out.pv GG.out hlf FT.out (by have := AC.out; omega) NK.out
    dsimp only [V4.agg] at T
    clear hlf xl
    go_wp2_with fail
    refine Calls.mono T.out ?_
    rintro e w4 ⟨rfl, v', c', s', f', n'⟩
    have X : Hid _ := And.intro c' (And.intro s' (And.intro (B3.out.fr.trans f' (Or.inl rfl)) (n' : Nw w3 v.ownBlock v'.ownBlock)))
    clear c' s' f' n' T y0 y1 y2 y3
    go_wp2_with fail
    go_ret
    rw [EL.out]
    refine ⟨rfl, v', rd + 1, n + 1, X.out.1, X.out.2.1, X.out.2.2.1, ?_, by have := M1.out; have := L1.out; rw [EL.out] at *; omega, by omega, by have := M1.out; have := L1.out; rw [EL.out] at *; omega⟩
    rcases X.out.2.2.2 with q | ⟨g, q, hg⟩
    · exact Or.inl q
    · exact Or.inr ⟨g, q, by have := W2.out; have := b3.out.size; omega⟩
  | false =>
    rw [hlf] at xl
    have ex := xl.out
    subst ex
    obtain ⟨S, EK, EL, BT⟩ : ∃ S, Hid (p.kids = S.map (·.n)) ∧ Hid (L = lall S) ∧ Hid (Bt (Tr sh r) p.keys S) := by
      rcases CS.out with ⟨q, _⟩ | ⟨_, _, S, q1, q2, q3⟩
      · rw [hlf] at q; cases q
      · exact ⟨S, q1, q2, q3⟩
    have RS : Hid _ := (leaf_keys GG.out).1
    have KF : Hid _ := fun W (q : Pv W (.agg #[.bool false, .slice ka kn kc, .slice va vn vc, .slice ia im ic]) p) => Kid_branch _ p a W q FT.out.bd RS.out hlf
    clear hlf xl CS
    go_upto_region 7 with fail
    clear y0 y1 y2 y3
    refine wp_region_held_drew (S := (fun W => W.cell? ⟨w2.heap.size, 0, none⟩ = some (.bool false) ∧ W.cell? ⟨w2.heap.size, 1, none⟩ = some (.slice ka kn kc) ∧ W.cell? ⟨w2.heap.size, 2, none⟩ = some (.slice va vn vc) ∧ W.cell? ⟨w2.heap.size, 3, none⟩ = some (.slice ia im ic) ∧ W.cell? ⟨C, 2, none⟩ = some (.string a))) (by kernel_rfl) ⟨(B3.out.below (Below.refl w3.heap.size w3).drew).box.b4.a0, (B3.out.below (Below.refl w3.heap.size w3).drew).box.b4.a1, (B3.out.below (Below.refl w3.heap.size w3).drew).box.b4.a2, (B3.out.below (Below.refl w3.heap.size w3).drew).box.b4.a3, (B3.out.below (Below.refl w3.heap.size w3).drew).col.c2⟩ (fun hHeld => ?_)
    have T1 : Hid _ := B3.out.below (Below.refl w3.heap.size w3).drew
    have W3 : Hid (w3.heap.size ≤ w3.drew.heap.size) := Nat.le_refl _
    generalize w3.drew = w4 at *
    clear B3
    refine take2 rfl (i := 0) (v := (.agg #[.bool false, .slice ka kn kc, .slice va vn vc, .slice ia im ic])) (d := 31) rfl rfl (by kernel_rfl) (by kernel_rfl) (by kernel_rfl) (fun _ _ _ h => h) (Or.inl ⟨by rfl, ?_⟩) hHeld ?_
    · (intro W hW; (try dsimp only at hW); go_simp)
    try simp only [Act.put, List.setIfInBounds_toArray, List.set_cons_zero, List.set_cons_succ]
    refine take2 rfl (i := 1) (v := (.pointer (some ⟨C, 0, none⟩))) (d := 32) rfl rfl (by kernel_rfl) (by kernel_rfl) (by kernel_rfl) (fun _ _ _ h => h) (Or.inl ⟨by rfl, ?_⟩) hHeld ?_
    · (intro W hW; (try dsimp only at hW); go_simp)
    try simp only [Act.put, List.setIfInBounds_toArray, List.set_cons_zero, List.set_cons_succ]
    refine take2 rfl (i := 2) (v := (.pointer (some ⟨C, 0, none⟩))) (d := 33) rfl rfl (by kernel_rfl) (by kernel_rfl) (by kernel_rfl) (fun _ _ _ h => h) (Or.inl ⟨by rfl, ?_⟩) hHeld ?_
    · (intro W hW; (try dsimp only at hW); go_simp)
    try simp only [Act.put, List.setIfInBounds_toArray, List.set_cons_zero, List.set_cons_succ]
    refine take2 rfl (i := 3) (v := (.pointer (some ⟨C, 2, none⟩))) (d := 34) rfl rfl (by kernel_rfl) (by kernel_rfl) (by kernel_rfl) (fun _ _ _ h => h) (Or.inl ⟨by rfl, ?_⟩) hHeld ?_
    · (intro W hW; (try dsimp only at hW); go_simp)
    try simp only [Act.put, List.setIfInBounds_toArray, List.set_cons_zero, List.set_cons_succ]
    refine take2 rfl (i := 4) (v := (.string a)) (d := 35) rfl rfl (by kernel_rfl) (by kernel_rfl) (by kernel_rfl) (fun _ _ _ h => h) (Or.inl ⟨by rfl, ?_⟩) hHeld ?_
    · (intro W hW; (try dsimp only at hW); go_simp)
    try simp only [Act.put, List.setIfInBounds_toArray, List.set_cons_zero, List.set_cons_succ]
    refine wpAnyH_ready (rs := [5]) (by kernel_rfl) (by simp) ?_
    refine cons2 rfl rfl (fun K9 hK => ?_)
    go_simp
    go_at_call 67
    refine Calls.mono (KF.out _ T1.out.pv) ?_
    rintro e w5 ⟨rfl, b5⟩
    have T2 : Hid _ := T1.out.below b5
    clear b5 T1
    go_wp2_with fail
    refine hK.out _ _ ⟨T2.out.box.b4.a0, T2.out.box.b4.a1, T2.out.box.b4.a2, T2.out.box.b4.a3, T2.out.col.c2⟩ (fun hX => ?_)
    clear hK K9 hHeld
    have hHeld := hX
    clear hX
    try simp only [Act.put, List.setIfInBounds_toArray, List.set_cons_zero, List.set_cons_succ]
    refine take2 rfl (i := 6) (v := (.int .i64 (plS p.keys a : Nat))) (d := 9) rfl rfl (by kernel_rfl) (by kernel_rfl) (by kernel_rfl) (fun _ _ _ h => h) (Or.inl ⟨by rfl, ?_⟩) hHeld ?_
    · (intro W hW; (try dsimp only at hW); go_simp)
    try simp only [Act.put, List.setIfInBounds_toArray, List.set_cons_zero, List.set_cons_succ]
    refine wpAnyH_done (by kernel_rfl) ?_ _
    clear hHeld
    obtain ⟨_, _, _, _, _, _, _, _, _, e1, k1, k2, k3⟩ := T2.out.pv.ex
    injection e1 with e1
    have e2 := congrArg Array.toList e1
    simp only [List.cons.injEq] at e2
    obtain ⟨e5, e4, e3, e6, e7⟩ := e2
    clear e5 e7
    injection e3 with q1 q2 q3
    injection e4 with q4 q5 q6
    injection e6 with q7 q8 q9
    subst q1 q2 q3 q4 q5 q6 q7 q8 q9
    have l1 := k1.slen
    have l3 := k3.klen
    have pl := plS_le p.keys a
    have hlen := BT.out.len
    have hkl : p.kids.length = S.length := by rw [EK.out, List.length_map]
    obtain ⟨a', F1, F2⟩ := cutF Try.underlying39 u64Info k3 (plS p.keys a) (by omega)
    have HF : Hid (∀ W, Pv W (.agg #[.bool false, .slice ka kn kc, .slice va vn vc, .slice ia im ic]) p → Sl W a' (im - plS p.keys a) (ic - plS p.keys a) (kv p.kids |>.drop (plS p.keys a)) ∧ Sl W ka kn kc (sv p.keys)) := fun W q => by
      obtain ⟨_, _, _, _, _, _, _, _, _, e1, k1, k2, k3⟩ := q.ex
      injection e1 with e1
      have e2 := congrArg Array.toList e1
      simp only [List.cons.injEq] at e2
      obtain ⟨_, e4, e3, e6, _⟩ := e2
      injection e4 with q4 q5 q6
      injection e6 with q7 q8 q9
      subst q4 q5 q6 q7 q8 q9
      exact ⟨F2 W k3, k1⟩
    obtain ⟨j0, hj0⟩ : ∃ j0, j0 = plS p.keys a := ⟨_, rfl⟩
    have J0 : Hid _ := hj0
    rw [← hj0] at F1 HF pl ⊢
    obtain ⟨y0, y1, y2, y3⟩ := T2.out.box.b4
    have nkk : kn ≤ 127 := by have := NK.out; omega
    clear e1 k1 k2 k3 hj0 F2
    go_upto_region 9 with fail
    have T3 : Hid (Bk w w5 C P w2.heap.size a b m sl vs sh (rd + 1) (n + 1) false (.slice ka kn kc) (.slice va vn vc) (.slice ia im ic) p v.ownBlock v (cutL a b m acc (lall (S.take (j0 + 0))))) := by
      have e0 : j0 + 0 = plS p.keys a := J0.out
      rw [e0, br_cut0 BT.out]
      exact T2.out
    clear y0 y1 y2 y3 T2 F1
    have e8 : ((lv + 1 : Nat) : Int) = (lv : Int) + 1 := by omega
    have E8 : Hid _ := e8
    clear e8
    go_loopg [42] (im - j0) (fun g iv wr => ∃ (i : Nat) (v' : Value) (rd' n' : Nat), i ≤ im - j0 ∧ g = im - j0 - i ∧ iv = .int .i64 (i : Nat) ∧ Hid (Bk w wr C P w2.heap.size a b m sl vs sh rd' n' false (.slice ka kn kc) (.slice va vn vc) (.slice ia im ic) p v.ownBlock v' (cutL a b m acc (lall (S.take (j0 + i))))) ∧ Hid (rd' ≤ rd + 1 + r * (lall (S.take (j0 + i))).length ∧ n ≤ n' ∧ n' ≤ n + 1 + r * (lall (S.take (j0 + i))).length))
    case atStart => exact ⟨0, v, rd + 1, n + 1, by omega, by omega, rfl, T3.out, by omega, by omega, by omega⟩
    case round =>
      obtain ⟨i, v', rd', n', hi, rfl, rfl, T, N⟩ := hrel
      obtain ⟨SK, SV⟩ := HF.out wr T.out.pv
      have TL : Hid (r * (lall (S.take (j0 + i))).length ≤ r * L.length) := Nat.mul_le_mul_left r (by rw [EL.out]; exact take_len _)
      by_cases c : i < im - j0
      · have c' : (i : Int) < ((im - j0 : Nat) : Int) := by omega
        obtain ⟨kb, ko, rfl, _⟩ := SK.at (by omega)
        obtain ⟨s, hsi⟩ : ∃ s, S[j0 + i]? = some s := ⟨_, List.getElem?_eq_getElem (by omega)⟩
        have gd : p.kids.getD (j0 + i) 0 = s.n := by rw [EK.out]; exact getD_map hsi
        have kcell : wr.cell? ⟨kb, ko + i, none⟩ = some (.int .u64 (s.n : Nat)) := by
          obtain ⟨b2, o2, q1, q2⟩ := SK.cell
          have q3 := q1 (by omega)
          injection q3 with q3
          injection q3 with q4 q5
          subst q4 q5
          refine q2 i _ ?_
          rw [List.getElem?_drop]
          unfold kv
          rw [List.getElem?_map, List.getElem?_eq_getElem (by omega)]
          simp only [Option.map_some]
          rw [← gd]
          simp [List.getD, List.getElem?_eq_getElem (show j0 + i < p.kids.length by omega)]
        have SI : Hid _ := hsi
        have LE : Hid _ := fun q => br_end (acc := acc) (m := m) (a := a) (b := b) BT.out RS.out (j := j0 + i) (by omega) q
        have tr : Hid _ := (BT.out.ok _ s hsi).1
        have LN : Hid ((lall (S.take (j0 + i + 1))).length = (lall (S.take (j0 + i))).length + s.L.length ∧ (lall (S.take (j0 + i + 1))).length ≤ L.length) := ⟨by rw [lall_next hsi, List.length_append], by rw [EL.out]; exact take_len _⟩
        have LN2 : Hid (r * (lall (S.take (j0 + i + 1))).length = r * (lall (S.take (j0 + i))).length + r * s.L.length ∧ r * (lall (S.take (j0 + i + 1))).length ≤ r * L.length) := ⟨by rw [LN.out.1, Nat.mul_add], Nat.mul_le_mul_left r LN.out.2⟩
        have snum : s.n ≤ 9223372036854775807 := by have := tr.out.num; omega
        have CL : Hid _ := cutL_len (a := a) (b := b) (m := m) (acc := acc) (L := lall (S.take (j0 + i)))
        have BM : Hid _ := br_more (acc := acc) (m := m) (a := a) (b := b) hsi
        rw [← EL.out] at LE
        clear SK hsi gd
        obtain ⟨acc', hacc⟩ : ∃ acc', acc' = cutL a b m acc (lall (S.take (j0 + i))) := ⟨_, rfl⟩
        rw [← hacc] at T LE CL BM
        clear hacc
        have FA : Hid _ := full_any _ _ _ _ _ _ _ _ wr T.out.col
        have w1 : IntKind.i64.wrap ((j0 : Int) + (i : Int)) = (j0 : Int) + (i : Int) := by rw [IntKind.wrap_i64]; omega
        go_wp2_with fail
        refine Calls.mono FA.out ?_
        rintro e w6 ⟨rfl, b6⟩
        have T2 : Hid _ := T.out.below b6
        have SV6 : Hid _ := (HF.out w6 T2.out.pv).2
        clear FA b6 T kcell SV
        have IHX : Hid (∀ W, Bk w W C P w2.heap.size a b m sl vs sh rd' n' false (.slice ka kn kc) (.slice va vn vc) (.slice ia im ic) p v.ownBlock v' acc' → Calls Try.prog 38 #[.pointer (some ⟨C, 0, none⟩), .int .u64 (s.n : Nat), .int .i64 ((lv : Int) + 1)] W fun e w' => ColP W w' C P a b m sl vs sh r rd' n' s.L v' acc' e) := fun W T => by
          have q := IH.out s.n (lv + 1) rd' n' s.L s.f v' acc' W T.col T.shf tr.out (by have := LN.out; have := HL.out; omega) (by have := LV.out; omega) (by have := N.out; have := LN2.out; have := RD.out; have := M1.out; have := L1.out; omega) (by have := CL.out; have := AC.out; have := LN.out; omega) (by have := N.out; have := LN2.out; have := NN.out; have := M1.out; have := L1.out; omega)
          rw [E8.out] at q
          exact q
        cases fl : decide (m ≤ (acc'.length : Nat)) with
        | true =>
          have LE2 : Hid _ := LE.out (Or.inl (of_decide_eq_true fl))
          go_wp2
          go_ret
          refine ⟨rfl, _, _, _, by rw [LE2.out]; exact T2.out.col, T2.out.shf, T2.out.fr, T2.out.no, by have := N.out; have := TL.out; have := M1.out; have := L1.out; omega, N.out.2.1, by have := N.out; have := TL.out; have := M1.out; have := L1.out; omega⟩
        | false =>
          by_cases z0 : j0 + i = 0
          · obtain ⟨rfl, rfl⟩ : j0 = 0 ∧ i = 0 := by omega
            clear LE
            go_wp2_with fail
            refine Calls.mono (IHX.out _ T2.out) ?_
            rintro e w8 ⟨rfl, v8, rd8, n8, c8, s8, f8, o8, m8, m8', m8''⟩
            have T8 : Hid _ := T2.out.next PS.out (by have := W2.out; have := HC.out; omega) (by have := W2.out; have := HC.out; omega) HY.out c8 s8 f8 o8
            rw [BM.out] at T8
            have N8 : Hid (rd8 ≤ rd + 1 + r * (lall (S.take (0 + 0 + 1))).length ∧ n ≤ n8 ∧ n8 ≤ n + 1 + r * (lall (S.take (0 + 0 + 1))).length) := ⟨by have := N.out; have := LN2.out; omega, by have := N.out; omega, by have := N.out; have := LN2.out; omega⟩
            clear c8 s8 f8 o8 m8 m8' m8'' T2 IHX
            go_wp2
            go_roundg (im - 0 - (0 + 1))
            case measure => omega
            case rel => exact ⟨0 + 1, _, _, _, by omega, rfl, by go_num, T8.out, N8.out⟩
          · have z1 : (0 : Int) < (j0 : Int) + (i : Int) := by omega
            obtain ⟨sb, so, rfl, _⟩ := SV6.out.at (by omega)
            have scell : w6.cell? ⟨sb, so + (j0 + i - 1), none⟩ = some (.string (kAt p.keys (j0 + i - 1))) := SV6.out.str (by omega)
            have w2' : IntKind.i64.wrap ((j0 : Int) + (i : Int) - 1) = (j0 : Int) + (i : Int) - 1 := by rw [IntKind.wrap_i64]; omega
            have w3' : ((j0 : Int) + (i : Int) - 1).toNat = j0 + i - 1 := by omega
            have w4' : 0 ≤ (j0 : Int) + (i : Int) - 1 ∧ (j0 : Int) + (i : Int) - 1 < (kn : Int) := by omega
            have EA : Hid _ := ends_any _ _ _ _ _ _ _ _ (kAt p.keys (j0 + i - 1)) w6 T2.out.col
            obtain ⟨z0', z1', z2', z3'⟩ := T2.out.box.b4
            go_wp2_with fail
            refine Calls.mono EA.out ?_
            rintro e w7 ⟨rfl, b7⟩
            have T7 : Hid _ := T2.out.below b7
            clear EA b7 scell z0' z1' z2' z3'
            cases en : endsB b (kAt p.keys (j0 + i - 1)) with
            | true =>
              have LE2 : Hid _ := LE.out (Or.inr ⟨by omega, en⟩)
              go_wp2
              go_ret
              refine ⟨rfl, _, _, _, by rw [LE2.out]; exact T7.out.col, T7.out.shf, T7.out.fr, T7.out.no, by have := N.out; have := TL.out; have := M1.out; have := L1.out; omega, N.out.2.1, by have := N.out; have := TL.out; have := M1.out; have := L1.out; omega⟩
            | false =>
              clear LE
              go_wp2_with fail
              refine Calls.mono (IHX.out _ T7.out) ?_
              rintro e w8 ⟨rfl, v8, rd8, n8, c8, s8, f8, o8, m8, m8', m8''⟩
              have T8 : Hid _ := T7.out.next PS.out (by have := W2.out; have := HC.out; omega) (by have := W2.out; have := HC.out; omega) HY.out c8 s8 f8 o8
              rw [BM.out] at T8
              have N8 : Hid (rd8 ≤ rd + 1 + r * (lall (S.take (j0 + i + 1))).length ∧ n ≤ n8 ∧ n8 ≤ n + 1 + r * (lall (S.take (j0 + i + 1))).length) := ⟨by have := N.out; have := LN2.out; omega, by have := N.out; omega, by have := N.out; have := LN2.out; omega⟩
              clear c8 s8 f8 o8 m8 m8' m8'' T7 IHX
              go_wp2
              go_roundg (im - j0 - (i + 1))
              case measure => omega
              case rel => exact ⟨i + 1, _, _, _, by omega, rfl, by go_num, T8.out, N8.out⟩
      · obtain rfl : i = im - j0 := by omega
        have ZE : Hid (S.take (j0 + (im - j0)) = S) := List.take_of_length_le (by omega)
        rw [ZE.out, ← EL.out] at T
        clear SK SV
        go_wp2
        go_ret
        refine ⟨rfl, _, _, _, T.out.col, T.out.shf, T.out.fr, T.out.no, by have := N.out; have := TL.out; have := M1.out; have := L1.out; omega, N.out.2.1, by have := N.out; have := TL.out; have := M1.out; have := L1.out; omega⟩

theorem collect_any (C P : Nat) (a b : ByteArray) (m : Int) (sl : Value) (vs : List V4) (sh : List Pg) (hP : P < C) (hsl : ∀ B, C ≤ B → sl.ownBlock ≠ some B) (hoff : ∀ B, C ≤ B → OffV vs B) (hs : sh.length ≤ 9223372036854775807) : ∀ r, ColOk C P a b m sl vs sh r
  | 0 => fun k lv rd n L f v acc w _ _ tr => False.elim tr
  | r + 1 => collect_next C P a b m sl vs sh hP hsl hoff hs r (collect_any C P a b m sl vs sh hP hsl hoff hs r)

end Go.Proofs.Ythdjghmipepppaa

namespace Go.Proofs.Ythdjghmipepppaa
open Go.RowKit Go.Shelf
set_option linter.unusedVariables false
set_option linter.unusedSimpArgs false
attribute [local go_sem] Oper.semAt_some

/-- What a range answers. -/
def RaP (w w' : World) (P : Nat) (sl : Value) (vs : List V4) (sh : List Pg) (n : Nat) (R : List It) (e : Ending) : Prop :=
  ∃ v n', e = .returned (.tuple #[v, .int .i64 0]) ∧ w'.ownsRow w.heap.size 61 2 v R.length (cI R) ∧ Shf w' P sl vs sh 0 n' ∧ Gw w w' P none ∧ n ≤ n' ∧ n' ≤ n + 3000
theorem RaP.nil {w w' : World} {P : Nat} {sl : Value} {vs : List V4} {sh : List Pg} {n : Nat} {R : List It} (h : Shf w P sl vs sh 0 n) (b : Below w.heap.size w w') (hR : R = []) : RaP w w' P sl vs sh n R (.returned (.tuple #[.slice none 0 0, .int .i64 0])) := by
  subst hR
  exact ⟨_, n, rfl, World.ownsRow_nil w' _ _ _, h.below b, Gw.of_below b P none, Nat.le_refl _, by omega⟩
theorem rng_none {L : List It} {a b : ByteArray} (h : ltS a b = false) (hb : b ≠ ByteArray.empty) : rng L a b = [] := by
  unfold rng
  refine filt_none (fun x hx => ?_)
  unfold inR
  rw [decide_eq_false hb, Bool.false_or]
  cases c : leS a x.1 with
  | false => rfl
  | true => rw [leS_not (leS_trans (not_leS h) c)]; rfl
theorem nil_empty {b : ByteArray} : b.toList = [] ↔ b = ByteArray.empty := by
  have e := empty_is b
  constructor
  · intro h
    rw [h] at e
    exact of_decide_eq_true e.symm
  · intro h
    rw [decide_eq_true h] at e
    simpa using e
theorem Col.new (w : World) (P : Nat) (a b : ByteArray) (m : Int) : Col (w.alloc (.cells #[ifP P, .int .i64 0, .string a, .string b, .int .i64 m, .slice none 0 0] 92)) w.heap.size P 0 a b m (.slice none 0 0) [] :=
  ⟨⟨by simp, by simp, fun i => World.frozen?_alloc_new _ _ _ i⟩, by simp, by simp, by simp, by simp, World.ownsRow_nil _ _ _ _⟩
theorem ownsRow_mono {w : World} {base base' : Nat} {t : TypeId} {k : Nat} {v : Value} {n : Nat} {xs : List Value} (h : w.ownsRow base t k v n xs) (hb : base' ≤ base) : w.ownsRow base' t k v n xs := by
  refine ⟨h.1, ?_⟩
  rcases h.2 with hn | ⟨g, cap, cur, hv, hg, rest⟩
  · exact .inl hn
  · exact .inr ⟨g, cap, cur, hv, by omega, rest⟩

set_option maxRecDepth 100000 in
set_option maxHeartbeats 8000000 in
theorem rangeTree (P : Nat) (sl : Value) (vs : List V4) (sh : List Pg) (n root r : Nat) (a b : ByteArray) (m : Int) (L : List It) (f : Nat) (w : World) (h : Shf w P sl vs sh 0 n) (hn : n ≤ 700000000) (rt : Rt sh root L r f) (hL : L.length ≤ 125) (hs : sh.length ≤ 9223372036854775807) (hr : r ≤ 20) :
    Calls Try.prog 12 #[ifP P, .int .u64 (root : Nat), .string a, .string b, .int .i64 m] w fun e w' => RaP w w' P sl vs sh n ((rng L a b).take m.toNat) e := by
  have H : Hid _ := h
  have lt : Hid _ := h.lt
  have C0 : Hid _ := Col.new w P a b m
  have b0 : Hid _ := allocB w (.cells #[ifP P, .int .i64 0, .string a, .string b, .int .i64 m, .slice none 0 0] 92)
  unfold ifP at C0 b0 ⊢
  by_cases c0 : root = 0
  · subst c0
    have NL : Hid _ := rt.none rfl
    clear h rt hL hs hr
    go_enter Try.func12, Try.ntmps12
    go_wp2_with fail
    go_ret2
    exact RaP.nil H.out b0.out (by rw [NL.out]; simp [rng])
  · have tr := rt.some c0
    have TR : Hid _ := tr
    have rn := tr.num
    have ml : r * L.length ≤ 20 * 125 := Nat.mul_le_mul hr hL
    have K : Hid _ := fun W (c : Col W w.heap.size P 0 a b m (.slice none 0 0) []) (s : Shf W P sl vs sh 0 n) => collect_any w.heap.size P a b m sl vs sh h.lt (fun B hB => h.newer B hB) (fun B hB => h.offNew hB) (by omega) r root 1 0 n L f (.slice none 0 0) [] W c s tr (by omega) (by omega) (by omega) (by simp; omega) (by omega)
    have ML : Hid _ := ml
    have c4 : decide ((root : Int) = 0) = false := by rw [decide_eq_false_iff_not]; omega
    have c5 : (root : Int) ≤ 9223372036854775807 := by omega
    have c6 : ((root : Int) == 0) = false := by simpa using c0
    clear h rt hL hs hr tr rn ml
    go_enter Try.func12, Try.ntmps12
    go_upto_region 2 with fail
    have H1 : Hid _ := H.out.below b0.out
    generalize (w.alloc (.cells #[.iface 23 (.pointer (some ⟨P, 0, none⟩)), .int .i64 0, .string a, .string b, .int .i64 m, .slice none 0 0] 92)) = w1 at *
    have FA : Hid _ := full_any _ _ _ _ _ _ _ _ w1 C0.out
    go_wp2_with fail
    refine Calls.mono FA.out ?_
    rintro e w2 ⟨rfl, b2⟩
    have C2 : Hid _ := C0.out.below b2
    have H2 : Hid _ := H1.out.below b2
    have B2 : Hid _ := nextB b0.out b2
    clear FA b2 C0 H1 b0
    simp only [List.length_nil]
    cases fl : decide (m ≤ ((0 : Nat) : Int)) with
    | true =>
      have m0 : m.toNat = 0 := by have := of_decide_eq_true fl; omega
      have M0 : Hid _ := m0
      clear m0
      go_wp2_with fail
      go_ret2
      exact RaP.nil H.out B2.out (by rw [M0.out]; rfl)
    | false =>
      have GO : Hid (∀ W v' n' rd', Col W w.heap.size P rd' a b m v' (cutL a b m [] L) → Shf W P sl vs sh 0 n' → Fr w2 W P w.heap.size none → n ≤ n' → n' ≤ n + r * L.length → RaP w W P sl vs sh n ((rng L a b).take m.toNat) (.returned (.tuple #[v', .int .i64 0]))) := fun W v' n' rd' c s f n1 n2 => by
        have o := c.own
        rw [cutL_all] at o
        exact ⟨v', n', rfl, ownsRow_mono o (Nat.le_succ _), s, Fr.gw0 B2.out f, n1, by have := ML.out; omega⟩
      by_cases q : b.toList = []
      · go_wp2_with fail
        refine Calls.mono (K.out w2 C2.out H2.out) ?_
        rintro e w3 ⟨rfl, v', rd', n', c', s', f', o', m1, m2, m3⟩
        have G2 : Hid _ := GO.out w3 v' n' rd' c' s' f' m2 m3
        have c5 := c'.c5
        clear c' s' f' o' GO K
        go_wp2_with fail
        go_ret2
        exact G2.out
      · cases e2 : Op.bytesLess a.toList b.toList with
        | false =>
          have R0 : Hid (rng L a b = []) := rng_none e2 (fun e => q (nil_empty.2 e))
          have qe : b.toList.isEmpty = false := by simpa using q
          go_wp2_with fail
          go_ret2
          exact RaP.nil H.out B2.out (by rw [R0.out, List.take_nil])
        | true =>
          go_wp2_with fail
          refine Calls.mono (K.out w2 C2.out H2.out) ?_
          rintro e w3 ⟨rfl, v', rd', n', c', s', f', o', m1, m2, m3⟩
          have G2 : Hid _ := GO.out w3 v' n' rd' c' s' f' m2 m3
          have c5 := c'.c5
          clear c' s' f' o' GO K
          go_wp2_with fail
          go_ret2
          exact G2.out

end Go.Proofs.Ythdjghmipepppaa

