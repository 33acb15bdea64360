/- descend: the way down to a leaf. -/
import Derived.Test.YthdjghmipepppaaMo
namespace Go.Proofs.Ythdjghmipepppaa
open Go.RowKit
set_option linter.unusedVariables false
set_option linter.unusedSimpArgs false

/-- What is kept where a row of one's own grows. -/
theorem Shf.grownO {w w' : World} {P : Nat} {o : Option Nat} {sl : Value} {vs : List V4} {sh : List Pg} {ill n : Nat} (h : Shf w P sl vs sh ill n) (g : w.grownBy w' o) (hb : ∀ b, o = some b → b ≠ P ∧ sl.ownBlock ≠ some b ∧ NT w b) : Shf w' P sl vs sh ill n := by
  cases o with
  | none => exact h.below ⟨g.os, g.tape, g.output, g.size, fun b hb => g.block b hb (by simp)⟩
  | some b => exact h.far g (hb b rfl).1 (hb b rfl).2.1 (hb b rfl).2.2
theorem Pv.grownO {w w' : World} {o : Option Nat} {v : Value} {p : Pg} (h : Pv w v p) (hp : Ps p.kids) (g : w.grownBy w' o) (hb : ∀ b, o = some b → NT w b) : Pv w' v p := by
  cases o with
  | none => exact h.below ⟨g.os, g.tape, g.output, g.size, fun b hb => g.block b hb (by simp)⟩
  | some b => exact h.gw hp (Gw.of_grown g) (hb b rfl) (fun c hc => by cases hc)
theorem Gw.storeO {a b c : World} {P : Nat} {o o' : Option Nat} (h : Gw a b P o) (g : b.grownBy c o') (hA : ∀ A, o' = some A → a.heap.size ≤ A) : Gw a c P o :=
  ⟨g.os.trans h.os, g.tape.trans h.tape, g.output.trans h.output, Nat.le_trans h.size g.size, fun i hi h1 h2 => (g.block i (Nat.lt_of_lt_of_le hi h.size) (fun e => by have := hA i e.symm; omega)).trans (h.block i hi h1 h2)⟩
/-- What descend answers. -/
def DesP (w w' : World) (P : Nat) (sl : Value) (vs : List V4) (sh : List Pg) (ill n : Nat) (way : List (Pg × Nat) × Pg) (e : Ending) : Prop :=
  (∃ v sts y, e = .returned (.tuple #[v, y.agg, .int .i64 0]) ∧ Stp w' w.heap.size v sts way.1 ∧ y ∈ vs ∧ Pv w' y.agg way.2 ∧ Shf w' P sl vs sh ill (n + way.1.length + 1) ∧ Gw w w' P none ∧ (ill = 0 ∨ n + way.1.length + 1 < ill)) ∨
  (e = .returned (.tuple #[.slice none 0 0, zeroV, .int .i64 4]) ∧ Shf w' P sl vs sh ill ill ∧ Gw w w' P none ∧ 0 < ill)
/-- What stands while it goes down. -/
structure Dn (w wr : World) (P : Nat) (sl : Value) (vs : List V4) (sh : List Pg) (ill n : Nat) (v : Value) (sts : List (V4 × Nat)) (pre : List (Pg × Nat)) : Prop where
  shf : Shf wr P sl vs sh ill (n + pre.length)
  wl : ill = 0 ∨ n + pre.length < ill
  rdr : Rdr wr (w.heap.size + 1) P pre.length
  stp : Stp wr (w.heap.size + 2) v sts pre
  box : Bq wr w.heap.size (.bool false) (.slice none 0 0) (.slice none 0 0) (.slice none 0 0)
  gw : Gw w wr P none
  kp : ∀ q ∈ pre, Ps q.1.kids
  sz : w.heap.size + 2 ≤ wr.heap.size
  rpast : ∀ i, 2 ≤ i → wr.cell? ⟨w.heap.size + 1, i, none⟩ = none
/-- A reader's block has no text. -/
theorem ntR {w : World} {R P c : Nat} (h : Rdr w R P c) (past : ∀ i, 2 ≤ i → w.cell? ⟨R, i, none⟩ = none) : NT w R := by
  intro i u hu
  rcases Nat.lt_or_ge i 2 with q | q
  · have e : i = 0 ∨ i = 1 := by omega
    rcases e with rfl | rfl
    · rw [h.r0] at hu; cases hu; exact ⟨fun s => by simp [ifP], fun z q => by cases q⟩
    · rw [h.r1] at hu; cases hu; exact nt_i64 _
  · rw [past i q] at hu; cases hu
/-- Steps from an elder block on. -/
theorem Stp.mono {w : World} {base b' : Nat} {v : Value} {sts : List (V4 × Nat)} {pre : List (Pg × Nat)} (h : Stp w base v sts pre) (hb : b' ≤ base) : Stp w b' v sts pre := by
  refine ⟨⟨h.own.1, ?_⟩, h.len, h.pv, h.nt⟩
  rcases h.own.2 with hn | ⟨g, cap, cur, hv, hbb, rest⟩
  · exact .inl hn
  · exact .inr ⟨g, cap, cur, hv, by omega, rest⟩

set_option maxRecDepth 100000 in
set_option maxHeartbeats 4000000 in
theorem descend_any (P : Nat) (sl : Value) (vs : List V4) (sh : List Pg) (ill n root r : Nat) (key : ByteArray) (L : List It) (f : Nat) (w : World) (h : Shf w P sl vs sh ill n) (hn : n ≤ 800000000) (hi : ill ≤ 1000000000) (wl : ill = 0 ∨ n < ill) (tr : Tr sh r root L f) (hL : L.length ≤ 127) (hs : sh.length ≤ 1000000) (hr : r ≤ 20) :
    Calls Try.prog 33 #[ifP P, .int .u64 (root : Nat), .string key] w fun e w' => DesP w w' P sl vs sh ill n (wayF r sh root key) e := by
  have H : Hid _ := h
  have lt : Hid _ := h.lt
  have TR : Hid _ := tr
  have WL : Hid _ := wl
  have newer : Hid _ := h.newer
  have offn : Hid (∀ B, w.heap.size ≤ B → OffV vs B) := fun B hB => h.offNew hB
  unfold ifP
  clear h tr wl
  go_enter Try.func33, Try.ntmps33
  go_wp2_with fail
  have D0 : Hid (Dn w ((w.alloc (.cells #[.bool false, .slice none 0 0, .slice none 0 0, .slice none 0 0] 54)).alloc (.cells #[.iface 23 (.pointer (some ⟨P, 0, none⟩)), .int .i64 0] 90)) P sl vs sh ill n (.slice none 0 0) [] []) := by
    have b1 := nextB (allocB w (.cells #[.bool false, .slice none 0 0, .slice none 0 0, .slice none 0 0] 54)) (allocB _ (.cells #[.iface 23 (.pointer (some ⟨P, 0, none⟩)), .int .i64 0] 90))
    refine ⟨H.out.below b1, WL.out, ⟨?_, ?_, fun i => ?_⟩, Stp.nil _ _, (Bq.new w _ _ _ _ _).below (allocB _ _), Gw.of_below b1 P none, fun q hq => by simp at hq, by simp, fun i hi => by simp; omega⟩
    · simp [ifP]
    · simp
    · have e : w.heap.size + 1 = (w.alloc (.cells #[.bool false, .slice none 0 0, .slice none 0 0, .slice none 0 0] 54)).heap.size := by simp
      rw [e]
      exact World.frozen?_alloc_new _ _ _ i
  generalize (w.alloc (.cells #[.bool false, .slice none 0 0, .slice none 0 0, .slice none 0 0] 54)).alloc (.cells #[.iface 23 (.pointer (some ⟨P, 0, none⟩)), .int .i64 0] 90) = w0 at *
  go_loopg [10, 11] r (fun g sv nv wr => ∃ (v : Value) (sts : List (V4 × Nat)) (pre : List (Pg × Nat)) (k r' : Nat) (L' : List It) (f' : Nat), g = r' ∧ sv = v ∧ nv = .int .u64 (k : Nat) ∧ Hid (Dn w wr P sl vs sh ill n v sts pre) ∧ Hid (Tr sh r' k L' f') ∧ Hid (wayF r sh root key = (pre ++ (wayF r' sh k key).1, (wayF r' sh k key).2)) ∧ L'.length ≤ 127 ∧ pre.length + r' ≤ 20)
  case atStart => exact ⟨_, [], [], root, r, L, f, rfl, rfl, rfl, D0.out, TR.out, (by simp : wayF r sh root key = ([] ++ (wayF r sh root key).1, (wayF r sh root key).2)), hL, by simpa using hr⟩
  case round =>
    obtain ⟨v, sts, pre, k, r', L', f', rfl, rfl, rfl, D, T', W', hL', hp⟩ := hrel
    obtain ⟨r2, p, e_r, hk', hg', hf', nk, ps', cs'⟩ := T'.out.top hL' (by omega)
    subst e_r
    obtain ⟨a, cp, rfl⟩ := D.out.stp.sl
    have m1 : Hid _ := D.out.stp.len
    have m2 : sts.length ≤ 19 := by rw [m1.out]; omega
    have kl : (k : Int) ≤ 1000000 := by have := T'.out.num; omega
    have hk : Hid _ := hk'
    have hg : Hid _ := hg'
    have hf : Hid _ := hf'
    have ps : Hid _ := ps'
    have cs : Hid _ := cs'
    clear hk' hg' hf' ps' cs'
    have r0P : Hid (w.heap.size + 1 ≠ P) := (by have := lt.out; omega : w.heap.size + 1 ≠ P)
    have e1 : ((sts.length + 1 : Nat) : Int) = (sts.length : Int) + 1 := by omega
    by_cases sick : n + pre.length + 1 = ill
    · have K : Hid _ := Gpage_ill (w.heap.size + 1) P sl vs sh ill (n + pre.length) k pre.length (sts.length + 1) wr D.out.shf D.out.rdr (by omega) sick r0P.out (newer.out _ (by omega)) (offn.out _ (by omega)) (by omega) (by omega)
      rw [e1] at K
      have SK : Hid _ := sick
      clear sick e1
      go_wp2_with fail
      refine Calls.mono K.out ?_
      rintro e w2 ⟨rfl, R2'⟩
      have R2 : Hid _ := R2'
      clear R2' K
      unfold zeroV
      have b3 : Hid _ := allocB w2 (.cells #[.bool false, .slice none 0 0, .slice none 0 0, .slice none 0 0] 54)
      have B2 : Hid _ := (D.out.box.gw R2.out.gw (by have := lt.out; omega) (fun e => by have := Option.some.inj e; omega)).below b3.out
      go_upto_region 5 with fail
      generalize w2.alloc (.cells #[.bool false, .slice none 0 0, .slice none 0 0, .slice none 0 0] 54) = w3 at *
      obtain ⟨u0, u1, u2, u3⟩ := B2.out.b4
      have uz := B2.out.fz
      have X : Hid _ := B2.out.put (.bool false) (.slice none 0 0) (.slice none 0 0) (.slice none 0 0)
      unfold st4 at X
      have Y : Hid _ := And.intro ((R2.out.shf.below b3.out).far' X.out.2 (by have := lt.out; omega) (newer.out _ (Nat.le_refl _)) (offn.out _ (Nat.le_refl _))) ((((D.out.gw.trans R2.out.gw (Or.inr ⟨_, rfl, by omega⟩)).next b3.out)).store X.out.2 (Nat.le_refl _))
      rw [SK.out] at Y
      have iz : Hid (0 < ill) := (by have := SK.out; omega : 0 < ill)
      go_wp2
      generalize (((w3.setCell ⟨w.heap.size, 0, none⟩ (.bool false)).setCell ⟨w.heap.size, 1, none⟩ (.slice none 0 0)).setCell ⟨w.heap.size, 2, none⟩ (.slice none 0 0)).setCell ⟨w.heap.size, 3, none⟩ (.slice none 0 0) = w5 at *
      obtain ⟨t0, t1, t2, t3⟩ := X.out.1.b4
      exact bodyPost_ret (v := .tuple #[.slice none 0 0, .agg #[.bool false, .slice none 0 0, .slice none 0 0, .slice none 0 0], .int .i64 4]) (by simp [results, Try.results33, go_sem, t0, t1, t2, t3]) rfl (Or.inr ⟨rfl, Y.out.1, Y.out.2, iz.out⟩)
    · have K : Hid _ := Gpage_ok (w.heap.size + 1) P sl vs sh ill (n + pre.length) k pre.length (sts.length + 1) p wr D.out.shf D.out.rdr (by omega) hi sick hk.out (by omega) r0P.out (newer.out _ (by omega)) (offn.out _ (by omega)) (by omega) (by omega) hg.out hf.out.bd
      rw [e1] at K
      have SK : Hid _ := sick
      clear sick e1
      go_wp2_with fail
      refine Calls.mono K.out ?_
      rintro e w2 ⟨x, rfl, hm', pv', R2'⟩
      have R2 : Hid _ := R2'
      have hm : Hid _ := hm'
      have pv : Hid _ := pv'
      clear R2' hm' pv' K
      have xl : Hid (x.lf = p.leaf) := (by obtain ⟨ka, kn, kc, va, vn, vc, ia, im, ic, e, _⟩ := pv.out.ex; unfold V4.agg at e; simp at e; exact e.1 : x.lf = p.leaf)
      obtain ⟨lf, ka, kn, kc, va, vn, vc, ia, im, ic⟩ := x
      simp only at xl
      unfold V4.agg
      simp only
      have b3 : Hid _ := allocB w2 (.cells #[.bool lf, .slice ka kn kc, .slice va vn vc, .slice ia im ic] 54)
      have C3 : Hid _ := Bq.new w2 (.bool lf) (.slice ka kn kc) (.slice va vn vc) (.slice ia im ic) 54
      have B2 : Hid _ := (D.out.box.gw R2.out.gw (by have := lt.out; omega) (fun e => by have := Option.some.inj e; omega)).below b3.out
      have G3 : Hid _ := (D.out.gw.trans R2.out.gw (Or.inr ⟨_, rfl, by omega⟩)).next b3.out
      go_upto_region 5 with fail
      generalize w2.alloc (.cells #[.bool lf, .slice ka kn kc, .slice va vn vc, .slice ia im ic] 54) = w3 at *
      have S3 : Hid _ := R2.out.shf.below b3.out
      have pv3 : Hid _ := pv.out.below b3.out
      cases hlf : p.leaf with
      | true =>
        rw [hlf] at xl
        have ex := xl.out
        subst ex
        obtain ⟨y0, y1, y2, y3⟩ := C3.out.b4
        obtain ⟨u0, u1, u2, u3⟩ := B2.out.b4
        have uz := B2.out.fz
        go_upto_region 8 with fail
        refine wp_region_held_drew (S := (fun W => W.cell? ⟨w2.heap.size, 0, none⟩ = some (.bool true) ∧ W.cell? ⟨w2.heap.size, 1, none⟩ = some (.slice ka kn kc) ∧ W.cell? ⟨w2.heap.size, 2, none⟩ = some (.slice va vn vc) ∧ W.cell? ⟨w2.heap.size, 3, none⟩ = some (.slice ia im ic))) (by kernel_rfl) (s4_of (C3.out.below (Below.refl w3.heap.size w3).drew).b4) (fun hHeld => ?_)
        have dr : Hid _ := (Below.refl w3.heap.size w3).drew
        have B4' : Hid _ := B2.out.below dr.out
        have S4 : Hid _ := S3.out.below dr.out
        have pv4 : Hid _ := pv3.out.below dr.out
        have G4 : Hid _ := G3.out.drew
        have C4 : Hid _ := C3.out.below dr.out
        have P4 : Hid _ := ((D.out.stp.gw R2.out.gw (fun e => by have := (D.out.stp.own.lt _ e).1; have := lt.out; omega) (Or.inr (fun e => by have := (D.out.stp.own.lt _ e).1; omega)) D.out.kp D.out.shf.ntP (fun b hb => by cases hb; exact ntR D.out.rdr D.out.rpast)).below b3.out).below dr.out
        clear y0 y1 y2 y3 u0 u1 u2 u3 uz
        generalize w3.drew = w4 at *
        refine take2 rfl (i := 0) (v := (.slice a sts.length cp)) (d := 32) rfl rfl (by kernel_rfl) (by kernel_rfl) (by kernel_rfl) (fun _ _ _ h => h) (Or.inl ⟨by rfl, ?_⟩) hHeld ?_
        · (intro W hW; (try dsimp only at hW); go_simp)
        try simp only [Act.put, List.setIfInBounds_toArray, List.set_cons_zero, List.set_cons_succ]
        refine take2 rfl (i := 1) (v := (.agg #[.bool true, .slice ka kn kc, .slice va vn vc, .slice ia im ic])) (d := 33) rfl rfl (by kernel_rfl) (by kernel_rfl) (by kernel_rfl) (fun _ _ _ h => h) (Or.inl ⟨by rfl, ?_⟩) hHeld ?_
        · (intro W hW; (try dsimp only at hW); go_simp)
        try simp only [Act.put, List.setIfInBounds_toArray, List.set_cons_zero, List.set_cons_succ]
        refine take2 rfl (i := 2) (v := (.slice a sts.length cp)) (d := 6) rfl rfl (by kernel_rfl) (by kernel_rfl) (by kernel_rfl) (fun _ _ _ h => h) (Or.inl ⟨by rfl, ?_⟩) hHeld ?_
        · (intro W hW; (try dsimp only at hW); go_simp)
        try simp only [Act.put, List.setIfInBounds_toArray, List.set_cons_zero, List.set_cons_succ]
        obtain ⟨u0, u1, u2, u3⟩ := B4'.out.b4
        have uz := B4'.out.fz
        have X : Hid _ := B4'.out.put (.bool true) (.slice ka kn kc) (.slice va vn vc) (.slice ia im ic)
        have NA : Hid _ := B4'.out.nt (nt_bool _) (nt_slice _ _ _) (nt_slice _ _ _) (nt_slice _ _ _)
        have GA : Hid _ := Gw.of_grown X.out.2
        have KA : Hid _ := C4.out.kept (X.out.2.block w2.heap.size C4.out.lt (fun e => by have := Option.some.inj e; have := R2.out.gw.size; have := D.out.sz; omega))
        have Y : Hid _ := And.intro (S4.out.far' X.out.2 (by have := lt.out; omega) (newer.out _ (Nat.le_refl _)) (offn.out _ (Nat.le_refl _))) (And.intro (G4.out.store X.out.2 (Nat.le_refl _)) (And.intro (pv4.out.gw ps.out GA.out NA.out (fun b hb => by cases hb)) (P4.out.gw GA.out (fun e => by have := (P4.out.own.lt _ e).1; omega) (Classical.em _) D.out.kp NA.out (fun b hb => by cases hb))))
        unfold st4 at X Y KA
        refine wpAnyH_ready (rs := [3]) (by kernel_rfl) (by simp) ?_
        refine cons2 rfl rfl (fun K9 hK => ?_)
        go_simp
        refine hK.out _ _ (s4_of KA.out.b4) (fun hX => ?_)
        clear hK K9 hHeld u0 u1 u2 u3 uz
        have hHeld := hX
        clear hX
        try simp only [Act.put, List.setIfInBounds_toArray, List.set_cons_zero, List.set_cons_succ]
        refine take2 rfl (i := 4) (v := (.int .i64 0)) (d := 8) rfl rfl (by kernel_rfl) (by kernel_rfl) (by kernel_rfl) (fun _ _ _ h => h) (Or.inl ⟨by rfl, ?_⟩) hHeld ?_
        · (intro W hW; (try dsimp only at hW); go_simp)
        try simp only [Act.put, List.setIfInBounds_toArray, List.set_cons_zero, List.set_cons_succ]
        refine wpAnyH_done (by kernel_rfl) ?_ _
        generalize (((w4.setCell ⟨w.heap.size, 0, none⟩ (.bool true)).setCell ⟨w.heap.size, 1, none⟩ (.slice ka kn kc)).setCell ⟨w.heap.size, 2, none⟩ (.slice va vn vc)).setCell ⟨w.heap.size, 3, none⟩ (.slice ia im ic) = w5 at *
        obtain ⟨t0, t1, t2, t3⟩ := X.out.1.b4
        have WF : Hid (wayF r sh root key = (pre, p)) := by rw [W'.out, wayF_leaf hk.out hlf]; exact (by simp : ((pre ++ [], p) : List (Pg × Nat) × Pg) = (pre, p))
        go_wp2
        rw [WF.out]
        refine bodyPost_ret (v := .tuple #[.slice a sts.length cp, .agg #[.bool true, .slice ka kn kc, .slice va vn vc, .slice ia im ic], .int .i64 0]) (by simp [results, Try.results33, go_sem, t0, t1, t2, t3]) rfl (Or.inl ⟨_, sts, ⟨true, ka, kn, kc, va, vn, vc, ia, im, ic⟩, rfl, Y.out.2.2.2.mono (by omega), hm.out, Y.out.2.2.1, Y.out.1, Y.out.2.1, ?_⟩)
        rcases D.out.wl with q | q
        · exact Or.inl q
        · have := SK.out
          have q' : n + pre.length < ill := q
          exact Or.inr (Nat.lt_of_le_of_ne q' SK.out)
      | false =>
        rw [hlf] at xl
        have ex := xl.out
        subst ex
        rcases cs.out with ⟨q, _⟩ | ⟨_, k1, S, e1, e2, bt⟩
        · rw [hlf] at q; cases q
        obtain ⟨L2, f2, tr2', l2, kk⟩ := Tr.kid hg.out e1 bt key
        have tr2 : Hid _ := tr2'
        have l3 : Hid (L2.length ≤ 127) := (by rw [e2] at hL'; omega : L2.length ≤ 127)
        have WF : Hid (wayF r sh root key = ((pre ++ [(p, plS p.keys key)]) ++ (wayF r2 sh (p.kids.getD (plS p.keys key) 0) key).1, (wayF r2 sh (p.kids.getD (plS p.keys key) 0) key).2)) := by
          rw [W'.out, wayF_branch hk.out hlf]
          exact (by rw [List.append_assoc]; rfl : ((pre ++ (p, plS p.keys key) :: (wayF r2 sh (p.kids.getD (plS p.keys key) 0) key).1, (wayF r2 sh (p.kids.getD (plS p.keys key) 0) key).2) : List (Pg × Nat) × Pg) = ((pre ++ [(p, plS p.keys key)]) ++ (wayF r2 sh (p.kids.getD (plS p.keys key) 0) key).1, (wayF r2 sh (p.kids.getD (plS p.keys key) 0) key).2))
        have KK : Hid (plS p.keys key < p.kids.length) := kk
        have K2 : Hid _ := Kid_branch _ p key w3 pv3.out hf.out.bd (leaf_keys hg.out).1 hlf
        unfold V4.agg at K2
        simp only at K2
        clear tr2' l2 kk bt e1 e2 k1
        obtain ⟨pl, hpl⟩ : ∃ pl, pl = plS p.keys key := ⟨_, rfl⟩
        rw [← hpl] at K2 KK WF tr2
        have n5 : pl ≤ 127 := by have := plS_le p.keys key; omega
        clear hpl
        obtain ⟨y0, y1, y2, y3⟩ := C3.out.b4
        go_upto_region 9 with fail
        go_wp2_with fail
        refine Calls.mono K2.out ?_
        rintro e w4 ⟨rfl, b4'⟩
        have b4 : Hid _ := b4'
        clear b4' y0 y1 y2 y3 K2
        have C4 : Hid _ := C3.out.below b4.out
        obtain ⟨y0, y1, y2, y3⟩ := C4.out.b4
        have b5 : Hid _ := allocB w4 (.cells #[.bool false, .slice ka kn kc, .slice va vn vc, .slice ia im ic, .int .i64 (pl : Nat)] 119)
        have E5 : Hid _ := heap_alloc_new w4 (.cells #[.bool false, .slice ka kn kc, .slice va vn vc, .slice ia im ic, .int .i64 (pl : Nat)] 119)
        have P5 : Hid _ := ((D.out.stp.gw R2.out.gw (fun e => by have := (D.out.stp.own.lt _ e).1; have := lt.out; omega) (Or.inr (fun e => by have := (D.out.stp.own.lt _ e).1; omega)) D.out.kp D.out.shf.ntP (fun b hb => by cases hb; exact ntR D.out.rdr D.out.rpast)).below (nextB (nextB b3.out b4.out) b5.out))
        have pv5 : Hid _ := (pv3.out.below b4.out).below b5.out
        have bz : Hid (w.heap.size + 2 ≤ (w4.alloc (.cells #[.bool false, .slice ka kn kc, .slice va vn vc, .slice ia im ic, .int .i64 (pl : Nat)] 119)).heap.size) := (by have := D.out.sz; have := R2.out.gw.size; have := b3.out.size; have := b4.out.size; have := b5.out.size; omega : w.heap.size + 2 ≤ (w4.alloc (.cells #[.bool false, .slice ka kn kc, .slice va vn vc, .slice ia im ic, .int .i64 (pl : Nat)] 119)).heap.size)
        go_upto_region 11 with (at_builtin; refine wpList_append_nt _ rfl (.tmp 37) (.tmp 41) 83 rfl _ _ rfl rfl _ (P5.out.more (⟨false, ka, kn, kc, va, vn, vc, ia, im, ic⟩, pl) (p, pl) pv5.out rfl D.out.kp ps.out (by omega) w4.heap.size E5.out bz.out _) ?_; rintro r6 w6 ⟨g6, cap6, rfl, P6', G6', L6'⟩)
        have ob : Hid (∀ b, (Value.slice a sts.length cp).ownBlock = some b → w.heap.size + 2 ≤ b ∧ b < wr.heap.size) := fun b hb => D.out.stp.own.lt b hb
        have nP : Hid (∀ b, (Value.slice a sts.length cp).ownBlock = some b → NT (w4.alloc (.cells #[.bool false, .slice ka kn kc, .slice va vn vc, .slice ia im ic, .int .i64 (pl : Nat)] 119)) b) := P5.out.nt
        have P6 : Hid _ := P6'
        have G6 : Hid _ := G6'
        have S6 : Hid _ := ((S3.out.below b4.out).below b5.out).grownO G6' (fun b hb => ⟨by have := (ob.out b hb).1; have := lt.out; omega, newer.out b (by have := (ob.out b hb).1; omega), nP.out b hb⟩)
        have pv6 : Hid _ := pv5.out.grownO ps.out G6' nP.out
        have keep : Hid (∀ k, k < w2.heap.size + 1 → (∀ b, (Value.slice a sts.length cp).ownBlock = some b → k ≠ b) → w6.heap[k]? = w3.heap[k]?) := fun k hk hb => by
          have z3 : w2.heap.size + 1 ≤ w3.heap.size := C3.out.lt
          have q1 := b4.out.block k (by omega)
          have q2 := b5.out.block k (by have := b4.out.size; omega)
          exact (G6'.block k (by have := b4.out.size; have := b5.out.size; omega) (fun e => hb k e.symm rfl)).trans (q2.trans q1)
        have C6 : Hid _ := C3.out.kept (keep.out _ (Nat.lt_succ_self _) (fun b hb e => by have := (ob.out b hb).2; have := R2.out.gw.size; omega))
        have G7 : Hid _ := ((G3.out.next b4.out).next b5.out).storeO G6' (fun b hb => by have := (ob.out b hb).1; omega)
        have z6 : Hid (w.heap.size + 2 ≤ w6.heap.size) := Nat.le_trans bz.out G6'.size
        have rl : Hid _ := D.out.rdr.lt
        have R6 : Hid _ := (R2.out.rdr.below b3.out).kept (keep.out (w.heap.size + 1) (by have := R2.out.rdr.lt; omega) (fun b hb e => by have := (ob.out b hb).1; omega))
        have B6 : Hid _ := B2.out.kept (keep.out w.heap.size (by have := R2.out.rdr.lt; omega) (fun b hb e => by have := (ob.out b hb).1; omega))
        clear P6' G6' L6' y0 y1 y2 y3
        obtain ⟨y0, y1, y2, y3⟩ := C6.out.b4
        have sk := (Pv.parts (l := false) (a := ka) (m := kn) (c := kc) (d := va) (n := vn) (f := vc) (g := ia) (o := im) (h := ic) (p := p) pv6.out).2.2.2
        have il := sk.klen
        have im1 : pl < im := by rw [← il]; exact KK.out
        obtain ⟨ib, io, rfl, _⟩ := sk.at (by omega)
        have nm := sk.num (i := pl) im1
        obtain ⟨k', hk2⟩ : ∃ k', k' = p.kids.getD pl 0 := ⟨_, rfl⟩
        rw [← hk2] at nm tr2 WF
        have D6 : Hid (Dn w w6 P sl vs sh ill n (.slice (some ⟨g6, 0, none⟩) (sts.length + 1) cap6) (sts ++ [(⟨false, ka, kn, kc, va, vn, vc, some ⟨ib, io, none⟩, im, ic⟩, pl)]) (pre ++ [(p, pl)])) := by
          have el : (pre ++ [(p, pl)]).length = pre.length + 1 := by simp
          refine ⟨by rw [el]; exact S6.out, ?_, by rw [el]; exact R6.out, P6.out, B6.out, G7.out, fun q hq => ?_, z6.out, fun i hi => ?_⟩
          · rw [el]
            rcases D.out.wl with q | q
            · exact Or.inl q
            · exact Or.inr (Nat.lt_of_le_of_ne q SK.out)
          · rcases List.mem_append.1 hq with q1 | q1
            · exact D.out.kp q q1
            · simp at q1; subst q1; exact ps.out
          · have e1 := World.cell?_of_block (w := w3) (a := ⟨w.heap.size + 1, i, none⟩) (keep.out (w.heap.size + 1) (by have := R2.out.rdr.lt; omega) (fun b hb e => by have := (ob.out b hb).1; omega))
            have e2 := World.cell?_of_block (w := w2) (a := ⟨w.heap.size + 1, i, none⟩) (b3.out.block (w.heap.size + 1) R2.out.rdr.lt)
            exact e1.trans (e2.trans ((R2.out.cell i (by omega)).trans (D.out.rpast i hi)))
        clear hk2 il sk S6 R6 P6 B6 G7 z6 keep C6 pv6 P5 pv5 E5 ob nP
        go_wp2
        go_roundg r2
        case measure => omega
        case rel => exact ⟨_, _, _, k', r2, L2, f2, rfl, rfl, rfl, D6.out, tr2.out, WF.out, l3.out, by simp; omega⟩
  all_goals sorry

end Go.Proofs.Ythdjghmipepppaa

