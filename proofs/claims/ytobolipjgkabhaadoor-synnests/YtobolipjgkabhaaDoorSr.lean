/- The walk over syn.Parse. -/
import Derived.Test.YtobolipjgkabhaaDoorSq
import Derived.Test.YtobolipjgkabhaaDoorLd
import Derived.BigQuiet
import Derived.Deep.RegionHeld3
namespace Go.Proofs.YtobolipjgkabhaaDoor
open Go.RowKit
set_option linter.unusedVariables false
set_option linter.unusedSimpArgs false

theorem cut_fin (s : ByteArray) : ∀ (m a : Nat) (R : List Wd), s.size - a ≤ m → a ≤ s.size → cutF s a = (R, none) → R.length ≤ s.size - a + 1 ∧ ∃ (Q : List Wd) (b : Nat), R = Q ++ [(0, 0, 0, b)] := by
  intro m
  induction m with
  | zero =>
    intro a R hm hle hc
    rw [cutF_end (by omega)] at hc
    injection hc with hc _
    subst hc
    exact ⟨by simp, [], a, rfl⟩
  | succ m ih =>
    intro a R hm hle hc
    rcases Nat.lt_or_ge a s.size with ha | ha
    · rw [cutF_cons ha] at hc
      by_cases b : isBl (bt s a) = true
      · rw [if_pos b] at hc
        obtain ⟨i1, i2⟩ := ih (a + 1) R (by omega) (by omega) hc
        exact ⟨by omega, i2⟩
      · rw [if_neg b] at hc
        by_cases d : (bt s a).toNat = 35
        · rw [if_pos d] at hc
          have c1 : 1 ≤ runC (tl s a) := by rw [tl_cons ha]; unfold runC; rw [if_neg (by omega)]; omega
          have c2 := runC_le (tl s a)
          rw [tl_len] at c2
          obtain ⟨i1, i2⟩ := ih _ R (by omega) (by omega) hc
          exact ⟨by omega, i2⟩
        · rw [if_neg d] at hc
          cases hw : wd (tl s a) with
          | none => rw [hw] at hc; cases hc
          | some y =>
            obtain ⟨k, n, v⟩ := y
            rw [hw] at hc
            dsimp only at hc
            obtain ⟨n1, n2⟩ := wd_len hw
            rw [tl_len] at n2
            cases hr : cutF s (a + n) with
            | mk r e =>
              rw [hr] at hc
              cases e with
              | some b => cases hc
              | none =>
                injection hc with hc _
                subst hc
                obtain ⟨i1, Q, b, i2⟩ := ih _ r (by omega) (by omega) hr
                exact ⟨by simp; omega, (k, n, v, a) :: Q, b, by rw [i2]; rfl⟩
    · rw [cutF_end ha] at hc
      injection hc with hc _
      subst hc
      exact ⟨by simp, [], a, rfl⟩
theorem Below.put6 {a b : World} {q : Nat} {B : Nat} (h : Below B a b) (hq : B ≤ q) (v0 v1 v2 v3 v4 v5 : Value) : Below B a ((((((b.setCell ⟨q, 0, none⟩ v0).setCell ⟨q, 1, none⟩ v1).setCell ⟨q, 2, none⟩ v2).setCell ⟨q, 3, none⟩ v3).setCell ⟨q, 4, none⟩ v4).setCell ⟨q, 5, none⟩ v5) :=
  (((((h.setCell (p := ⟨q, 0, none⟩) hq v0).setCell (p := ⟨q, 1, none⟩) hq v1).setCell (p := ⟨q, 2, none⟩) hq v2).setCell (p := ⟨q, 3, none⟩) hq v3).setCell (p := ⟨q, 4, none⟩) hq v4).setCell (p := ⟨q, 5, none⟩) hq v5
/-- The parser's own block, and what lies in it at first. -/
theorem Ps.new {w : World} {s : ByteArray} {v : Value} {R : List Wd} {a : Option Addr} {c b : Nat} (h : Rd4 w v s R a c b) (hb : b < w.heap.size) (hl : R.length ≤ 9000) (hf : ∃ (Q : List Wd) (x : Nat), R = Q ++ [(0, 0, 0, x)]) (t : TypeId) :
    Ps (w.alloc (.cells #[.slice (some ⟨b, 0, none⟩) (R.map (wo s)).length c, .int .i64 0, .bool false, .int .i64 0] t)) w.heap.size b c (R.map (wo s)) 0 none := by
  have st : Below w.heap.size w (w.alloc (.cells #[.slice (some ⟨b, 0, none⟩) (R.map (wo s)).length c, .int .i64 0, .bool false, .int .i64 0] t)) := (Below.refl _ _).alloc (Nat.le_refl _) _
  have at_ : ∀ i x, (R.map (wo s))[i]? = some x → ∃ y, R[i]? = some y ∧ wo s y = x := fun i x e => by
    rw [List.getElem?_map] at e
    exact Option.map_eq_some_iff.1 e
  obtain ⟨Q, z, e⟩ := hf
  refine ⟨by simp, by simp, by simp, by simp, fun i => by simp, ?_, ?_, ?_, ?_, by omega, by rw [e]; simp, by simpa using hl, ?_⟩
  · intro i x q; obtain ⟨y, q1, q2⟩ := at_ i x q; rw [st.cell (p := ⟨b, _, none⟩) hb, h.c0 i y q1, ← q2]; rfl
  · intro i x q; obtain ⟨y, q1, q2⟩ := at_ i x q; rw [st.cell (p := ⟨b, _, none⟩) hb, h.c1 i y q1, ← q2]; rfl
  · intro i x q; obtain ⟨y, q1, q2⟩ := at_ i x q; rw [st.cell (p := ⟨b, _, none⟩) hb, h.c2 i y q1, ← q2]; rfl
  · intro i x q; obtain ⟨y, q1, q2⟩ := at_ i x q; rw [st.cell (p := ⟨b, _, none⟩) hb, h.c3 i y q1, ← q2]; rfl
  · intro x q
    obtain ⟨y, q1, q2⟩ := at_ _ x q
    rw [e] at q1
    simp at q1
    subst q1
    rw [← q2]
    refine ⟨rfl, ?_⟩
    exact ext_nil s z
theorem cutL (s : ByteArray) (w : World) (hs : 8192 < s.size) (hs' : s.size < 9000000000000000000) : Calls Tryd.prog 8 #[.string s] w fun e w' => e = .returned (.tuple #[.slice none 0 0, .int .i64 0, .int .i64 2]) ∧ Below w.heap.size w w' :=
  (cut_long s w hs hs').mono fun e w' ⟨h1, h2⟩ => ⟨h1, by subst h2; exact Below.refl _ _⟩
theorem cutN (s : ByteArray) (R : List Wd) (b : Nat) (w : World) (hs : s.size ≤ 8192) (hT : Tab w) (h : cutF s 0 = (R, some b)) : Calls Tryd.prog 8 #[.string s] w fun e w' => e = .returned (.tuple #[.slice none 0 0, .int .i64 (b : Nat), .int .i64 7]) ∧ Below w.heap.size w w' :=
  (Cut_any s w hs hT).mono fun e w' ⟨hb, hm⟩ => by
    rw [h] at hm
    exact ⟨hm, hb⟩
theorem cutY (s : ByteArray) (R : List Wd) (w : World) (hs : s.size ≤ 8192) (hT : Tab w) (h : cutF s 0 = (R, none)) : Calls Tryd.prog 8 #[.string s] w fun e w' => ∃ v, e = .returned (.tuple #[v, .int .i64 0, .int .i64 0]) ∧ Rw w' w.heap.size 41 s v R ∧ Below w.heap.size w w' :=
  (Cut_any s w hs hT).mono fun e w' ⟨hb, hm⟩ => by
    rw [h] at hm
    obtain ⟨v, h1, h2⟩ := hm
    exact ⟨v, h1, h2, hb⟩
def parR (r : Rs) : Tr ⊕ (Nat × Nat) := match r with | ⟨none, l', _⟩ => .inr (aw l', 7) | ⟨some t, _, some a⟩ => .inr (a, 2) | ⟨some t, _, none⟩ => .inl t
theorem parF_is (l : List Wo) : parF l = parR (statF l) := by
  unfold parF parR
  rfl
/-- What Parse answers. -/
def PrP (r : Tr ⊕ (Nat × Nat)) (w : World) (e : Ending) (w' : World) : Prop := Below w.heap.size w w' ∧
  match r with
  | .inl t => ∃ v, e = .returned (.tuple #[v, .int .i64 0, .int .i64 0]) ∧ Nv w' (fun g => w.heap.size ≤ g) v t
  | .inr (a, n) => e = .returned (.tuple #[.agg #[.string ⟨#[]⟩, .string ⟨#[]⟩, .int .i64 0, .int .i64 0, .int .i64 0, .slice none 0 0], .int .i64 (a : Nat), .int .i64 (n : Nat)])
set_option maxRecDepth 100000 in
set_option maxHeartbeats 4000000 in
theorem parse_long (s : ByteArray) (w : World) (hs : 8192 < s.size) (hs2 : s.size < 9000000000000000000) (hT : KT w) (hS : Tab w) :
    Calls Tryd.prog 5 #[.string s] w fun e w' => PrP (parse s) w e w' := by
  have HB := hid (B6.new w 26 (.string ⟨#[]⟩) (.string ⟨#[]⟩) (.int .i64 0) (.int .i64 0) (.int .i64 0) (.slice none 0 0))
  have HS0 : Hid (Below w.heap.size w (w.alloc (.cells #[.string ⟨#[]⟩, .string ⟨#[]⟩, .int .i64 0, .int .i64 0, .int .i64 0, .slice none 0 0] 26))) := (Below.refl _ _).alloc (Nat.le_refl _) _
  have WS := hid (show w.heap.size < (w.alloc (.cells #[.string ⟨#[]⟩, .string ⟨#[]⟩, .int .i64 0, .int .i64 0, .int .i64 0, .slice none 0 0] 26)).heap.size from by simp)
  have KG := hT.1
  have KH := hid (hT.next HS0.out)
  have TH := hid (hS.next HS0.out)
  have HC := hid (cutL s (w.alloc (.cells #[.string ⟨#[]⟩, .string ⟨#[]⟩, .int .i64 0, .int .i64 0, .int .i64 0, .slice none 0 0] 26)) hs hs2)
  have PE := hid (show parse s = .inr (0, 2) from by unfold parse; rw [if_pos hs])
  obtain ⟨R, hR⟩ : ∃ R, parse s = R := ⟨_, rfl⟩
  rw [hR] at PE ⊢
  clear hR hT hS
  go_enter Tryd.func5, Tryd.ntmps5
  go_upto_region 1 with fail
  generalize World.alloc w _ = w1 at *
  go_upto_region 3 with (go_at_call 8; with_reducible refine Calls.mono HC.out ?_; rintro e w2 ⟨rfl, b2⟩; replace HB := hid (HB.out.next b2); replace HS0 := hid (nextB HS0.out b2); clear b2)
  obtain ⟨r0, r1, r2, r3, r4, r5, rz⟩ := HB.out
  have BF := hid (HB.out.sets (.string ⟨#[]⟩) (.string ⟨#[]⟩) (.int .i64 0) (.int .i64 0) (.int .i64 0) (.slice none 0 0))
  have GF := hid (Below.put6 HS0.out (q := w.heap.size) (Nat.le_refl _) (.string ⟨#[]⟩) (.string ⟨#[]⟩) (.int .i64 0) (.int .i64 0) (.int .i64 0) (.slice none 0 0))
  go_wp2_with fail
  generalize World.setCell _ ⟨w.heap.size, 5, none⟩ _ = w9 at *
  obtain ⟨f0, f1, f2, f3, f4, f5, _⟩ := BF.out
  exact bodyPost_ret (v := .tuple #[.agg #[.string ⟨#[]⟩, .string ⟨#[]⟩, .int .i64 0, .int .i64 0, .int .i64 0, .slice none 0 0], .int .i64 0, .int .i64 2]) (by simp [results, Tryd.results5, go_sem, f0, f1, f2, f3, f4, f5]) rfl (by rw [PE.out]; exact ⟨GF.out, rfl⟩)
set_option maxRecDepth 100000 in
set_option maxHeartbeats 4000000 in
theorem parse_bad (s : ByteArray) (w : World) (bx : Nat) (Rx : List Wd) (hs : s.size ≤ 8192) (hx : cutF s 0 = (Rx, some bx)) (hT : KT w) (hS : Tab w) :
    Calls Tryd.prog 5 #[.string s] w fun e w' => PrP (parse s) w e w' := by
  have HB := hid (B6.new w 26 (.string ⟨#[]⟩) (.string ⟨#[]⟩) (.int .i64 0) (.int .i64 0) (.int .i64 0) (.slice none 0 0))
  have HS0 : Hid (Below w.heap.size w (w.alloc (.cells #[.string ⟨#[]⟩, .string ⟨#[]⟩, .int .i64 0, .int .i64 0, .int .i64 0, .slice none 0 0] 26))) := (Below.refl _ _).alloc (Nat.le_refl _) _
  have WS := hid (show w.heap.size < (w.alloc (.cells #[.string ⟨#[]⟩, .string ⟨#[]⟩, .int .i64 0, .int .i64 0, .int .i64 0, .slice none 0 0] 26)).heap.size from by simp)
  have KG := hT.1
  have KH := hid (hT.next HS0.out)
  have TH := hid (hS.next HS0.out)
  have HC := hid (cutN s Rx bx _ hs TH.out hx)
  have PE := hid (show parse s = .inr (bx, 7) from by unfold parse; rw [if_neg (by omega), hx])
  obtain ⟨R, hR⟩ : ∃ R, parse s = R := ⟨_, rfl⟩
  rw [hR] at PE ⊢
  clear hR hT hS
  go_enter Tryd.func5, Tryd.ntmps5
  go_upto_region 1 with fail
  generalize World.alloc w _ = w1 at *
  go_upto_region 3 with (go_at_call 8; with_reducible refine Calls.mono HC.out ?_; rintro e w2 ⟨rfl, b2⟩; replace HB := hid (HB.out.next b2); replace HS0 := hid (nextB HS0.out b2); clear b2)
  obtain ⟨r0, r1, r2, r3, r4, r5, rz⟩ := HB.out
  have BF := hid (HB.out.sets (.string ⟨#[]⟩) (.string ⟨#[]⟩) (.int .i64 0) (.int .i64 0) (.int .i64 0) (.slice none 0 0))
  have GF := hid (Below.put6 HS0.out (q := w.heap.size) (Nat.le_refl _) (.string ⟨#[]⟩) (.string ⟨#[]⟩) (.int .i64 0) (.int .i64 0) (.int .i64 0) (.slice none 0 0))
  go_wp2_with fail
  generalize World.setCell _ ⟨w.heap.size, 5, none⟩ _ = w9 at *
  obtain ⟨f0, f1, f2, f3, f4, f5, _⟩ := BF.out
  exact bodyPost_ret (v := .tuple #[.agg #[.string ⟨#[]⟩, .string ⟨#[]⟩, .int .i64 0, .int .i64 0, .int .i64 0, .slice none 0 0], .int .i64 (bx : Nat), .int .i64 7]) (by simp [results, Tryd.results5, go_sem, f0, f1, f2, f3, f4, f5]) rfl (by rw [PE.out]; exact ⟨GF.out, rfl⟩)
set_option maxRecDepth 100000 in
set_option maxHeartbeats 4000000 in
theorem parse_good (s : ByteArray) (w : World) (RW : List Wd) (hs : s.size ≤ 8192) (hx : cutF s 0 = (RW, none)) (hC : TC (RW.map (wo s))) (hT : KT w) (hS : Tab w) :
    Calls Tryd.prog 5 #[.string s] w fun e w' => PrP (parse s) w e w' := by
  have HB := hid (B6.new w 26 (.string ⟨#[]⟩) (.string ⟨#[]⟩) (.int .i64 0) (.int .i64 0) (.int .i64 0) (.slice none 0 0))
  have HS0 : Hid (Below w.heap.size w (w.alloc (.cells #[.string ⟨#[]⟩, .string ⟨#[]⟩, .int .i64 0, .int .i64 0, .int .i64 0, .slice none 0 0] 26))) := (Below.refl _ _).alloc (Nat.le_refl _) _
  have WS := hid (show w.heap.size < (w.alloc (.cells #[.string ⟨#[]⟩, .string ⟨#[]⟩, .int .i64 0, .int .i64 0, .int .i64 0, .slice none 0 0] 26)).heap.size from by simp)
  have KG := hT.1
  have KH := hid (hT.next HS0.out)
  have TH := hid (hS.next HS0.out)
  have HC := hid (cutY s RW _ hs TH.out hx)
  have WS0 := hid WS.out
  obtain ⟨cf1, cf2⟩ := cut_fin s _ 0 RW (Nat.le_refl _) (Nat.zero_le _) hx
  have LN : RW.length ≤ 9000 := by omega
  have CF := hid cf2
  have CT := hid hC
  have PE := hid (show parse s = parF (RW.map (wo s)) from by unfold parse; rw [if_neg (by omega), hx])
  obtain ⟨R, hR⟩ : ∃ R, parse s = R := ⟨_, rfl⟩
  rw [hR] at PE ⊢
  clear hR hT hS hC cf1 cf2 hx
  go_enter Tryd.func5, Tryd.ntmps5
  go_upto_region 1 with fail
  generalize World.alloc w _ = w1 at *
  go_upto_region 4 with (go_at_call 8; with_reducible refine Calls.mono HC.out ?_; rintro e w2 ⟨v, rfl, h2, b2⟩; replace HB := hid (HB.out.next b2); replace HS0 := hid (nextB HS0.out b2); replace WS := hid (Nat.lt_of_lt_of_le WS.out b2.size); replace KH := hid (KH.out.next b2); have RWH := hid h2; clear b2 h2)
  obtain ⟨a0, cc, bb, rd⟩ := Rd4.of RWH.out
  have pos : 0 < RW.length := by obtain ⟨Q, x, e⟩ := CF.out; rw [e]; simp
  have RDH := hid rd
  have ev := rd.v
  have ea := rd.a pos
  subst ea
  have b2l : bb < w2.heap.size := by obtain ⟨y, hy⟩ : ∃ y, RW[0]? = some y := ⟨_, List.getElem?_eq_getElem pos⟩; exact World.block_lt_of_cell? _ _ (rd.c0 0 y hy)
  subst ev
  clear rd
  have PN := hid (Ps.new RDH.out b2l LN CF.out 37)
  have HS4 := hid (show Below w2.heap.size w2 (w2.alloc (.cells #[.slice (some ⟨bb, 0, none⟩) (RW.map (wo s)).length cc, .int .i64 0, .bool false, .int .i64 0] 37)) from (Below.refl _ _).alloc (Nat.le_refl _) _)
  have wl : RW.length = (RW.map (wo s)).length := by simp
  rw [wl]
  generalize RW.map (wo s) = ws at *
  have hg : 1 ≠ w2.heap.size := by have := WS.out; omega
  replace HB := hid (HB.out.next HS4.out)
  replace HS0 := hid (nextB HS0.out HS4.out)
  replace KH := hid (KH.out.next HS4.out)
  have bge : w.heap.size < bb := by
    rcases World.ownsRow.lt RWH.out bb rfl with ⟨z, _⟩
    have := WS0.out
    omega
  clear HC RWH RDH CF wl TH
  have w2l := WS.out
  go_upto_region 5 with fail
  generalize World.alloc w2 _ = w3 at *
  generalize w2.heap.size = p at *
  clear HS4
  have HC := hid (pstat_any KH.out hg CT.out PN.out)
  obtain ⟨RS, hRS⟩ : ∃ RS, statF ws = RS := ⟨_, rfl⟩
  rw [hRS] at HC
  have PX := hid (show R = parR RS from by rw [PE.out, parF_is, hRS])
  clear hRS PE
  obtain ⟨rt, rl, ro⟩ := RS
  go_upto_region 6 with fail
  with_reducible refine Calls.mono HC.out ?_
  rintro e w5 h5
  obtain ⟨g5, k', v, hl, p5, rfl, t, ⟨sl, hv, nv⟩, ht⟩ := h5
  subst hv
  obtain ⟨sa, sm, sc, rfl⟩ := nv.sl
  replace HB := hid (HB.out.gr g5 (by omega))
  replace HS0 := hid (HS0.out.grown g5 (by have := HS0.out.size; omega) (fun x e => by injection e with e; omega))
  have HP5 := hid p5
  have HN5 := hid nv
  have HT5 := hid ht
  have HL5 := hid hl
  have WS5 := hid g5.size
  clear g5 p5 nv ht hl
  dsimp only
  obtain ⟨rb, hrb⟩ : ∃ rb, rt.isSome = rb := ⟨_, rfl⟩
  rw [hrb]
  have RBH := hid hrb
  clear hrb
  go_upto_region 6 with fail
  have HL5 := HL5.out
  have HL5 : rl = ws.drop k' := HL5
  subst HL5
  have HS6 := hid (show Below w5.heap.size w5 (w5.alloc (.cells #[.string t.op, .string t.name, .int .i64 (t.kind : Nat), .int .i64 t.n, .int .i64 (t.pl : Nat), .slice sa sm sc] 26)) from (Below.refl _ _).alloc (Nat.le_refl _) _)
  have B9 := hid (B6.new w5 26 (.string t.op) (.string t.name) (.int .i64 (t.kind : Nat)) (.int .i64 t.n) (.int .i64 (t.pl : Nat)) (.slice sa sm sc))
  replace HB := hid (HB.out.next HS6.out)
  replace HS0 := hid (nextB HS0.out HS6.out)
  have HP6 := hid (HP5.out.next HS6.out)
  have HN6 := hid ((HN5.out.next HS6.out).weak (m := w.heap.size + 1) (by have := PN.out.pl; omega))
  clear HS6 HP5 HN5 HC HL5
  generalize World.alloc w5 _ = w6 at *
  generalize w5.heap.size = eg at *
  cases rt with
  | none =>
    have rb0 : rb = false := RBH.out.symm
    subst rb0
    have PF := hid (show R = .inr (aw (ws.drop k'), 7) from PX.out)
    obtain ⟨x, cu⟩ := HP6.out.cur
    have XA := hid cu.at_
    have AX := hid (show aw (ws.drop k') = x.a from by rw [cu.dr]; rfl)
    have c0 := HP6.out.c0
    have c1 := HP6.out.c1
    have d0 := cu.d0
    have d1 := cu.d1
    have d2 := cu.d2
    have d3 := cu.d3
    have l1 : (k' : Int) < (ws.length : Int) := by have := HP6.out.lt; omega
    have l2 := HP6.out.len
    clear cu
    obtain ⟨xk, xt, xn, xa⟩ := x
    simp only at XA AX d0 d1 d2 d3
    go_upto_region 7 with fail
    refine wp_region_held_drew (S := (fun W => W.cell? ⟨p, 0, none⟩ = some (.slice (some ⟨bb, 0, none⟩) ws.length cc) ∧ W.cell? ⟨p, 1, none⟩ = some (.int .i64 (k' : Nat)) ∧ W.cell? ⟨bb, k' * 4, none⟩ = some (.int .i64 (xk : Nat)) ∧ W.cell? ⟨bb, k' * 4 + 1, none⟩ = some (.string xt) ∧ W.cell? ⟨bb, k' * 4 + 2, none⟩ = some (.int .i64 (xn : Nat)) ∧ W.cell? ⟨bb, k' * 4 + 3, none⟩ = some (.int .i64 (xa : Nat)))) (by kernel_rfl) ⟨c0, c1, d0, d1, d2, d3⟩ (fun hHeld => ?_)
    have HB7 := hid (HB.out.next (Below.refl w6.heap.size w6).drew)
    have HS7 := hid (nextB HS0.out (Below.refl w6.heap.size w6).drew)
    have HP7 := hid (HP6.out.next (Below.refl w6.heap.size w6).drew)
    generalize w6.drew = wz at *
    obtain ⟨r0, r1, r2, r3, r4, r5, rz⟩ := HB7.out
    have BF := hid (HB7.out.sets (.string ⟨#[]⟩) (.string ⟨#[]⟩) (.int .i64 0) (.int .i64 0) (.int .i64 0) (.slice none 0 0))
    have GF := hid (Below.put6 HS7.out (q := w.heap.size) (Nat.le_refl _) (.string ⟨#[]⟩) (.string ⟨#[]⟩) (.int .i64 0) (.int .i64 0) (.int .i64 0) (.slice none 0 0))
    have pw : p ≠ w.heap.size := by omega
    have bw : bb ≠ w.heap.size := by omega
    have PP := hid (HP7.out.put6 (q := w.heap.size) pw bw (.string ⟨#[]⟩) (.string ⟨#[]⟩) (.int .i64 0) (.int .i64 0) (.int .i64 0) (.slice none 0 0))
    refine take2 rfl (i := 0) (v := .agg #[.string ⟨#[]⟩, .string ⟨#[]⟩, .int .i64 0, .int .i64 0, .int .i64 0, .slice none 0 0]) (d := 31) rfl rfl (by kernel_rfl) (by kernel_rfl) (by kernel_rfl) (fun _ _ _ h => h) (Or.inl ⟨by rfl, ?_⟩) hHeld ?_
    · (intro W hW; (try dsimp only at hW); go_simp)
    try simp only [Act.put, List.setIfInBounds_toArray, List.set_cons_zero, List.set_cons_succ]
    refine take2 rfl (i := 1) (v := .pointer (some ⟨p, 0, none⟩)) (d := 32) rfl rfl (by kernel_rfl) (by kernel_rfl) (by kernel_rfl) (fun _ _ _ h => h) (Or.inl ⟨by rfl, ?_⟩) hHeld ?_
    · (intro W hW; (try dsimp only at hW); go_simp)
    try simp only [Act.put, List.setIfInBounds_toArray, List.set_cons_zero, List.set_cons_succ]
    refine take2 rfl (i := 2) (v := .slice (some ⟨bb, 0, none⟩) ws.length cc) (d := 33) rfl rfl (by kernel_rfl) (by kernel_rfl) (by kernel_rfl) (fun _ _ _ h => h) (Or.inl ⟨by rfl, ?_⟩) hHeld ?_
    · (intro W hW; (try dsimp only at hW); go_simp)
    try simp only [Act.put, List.setIfInBounds_toArray, List.set_cons_zero, List.set_cons_succ]
    refine take2 rfl (i := 3) (v := .pointer (some ⟨p, 1, none⟩)) (d := 34) rfl rfl (by kernel_rfl) (by kernel_rfl) (by kernel_rfl) (fun _ _ _ h => h) (Or.inl ⟨by rfl, ?_⟩) hHeld ?_
    · (intro W hW; (try dsimp only at hW); go_simp)
    try simp only [Act.put, List.setIfInBounds_toArray, List.set_cons_zero, List.set_cons_succ]
    refine take2 rfl (i := 4) (v := .int .i64 (k' : Nat)) (d := 35) rfl rfl (by kernel_rfl) (by kernel_rfl) (by kernel_rfl) (fun _ _ _ h => h) (Or.inl ⟨by rfl, ?_⟩) hHeld ?_
    · (intro W hW; (try dsimp only at hW); go_simp)
    try simp only [Act.put, List.setIfInBounds_toArray, List.set_cons_zero, List.set_cons_succ]
    refine take2 rfl (i := 5) (v := .pointer (some ⟨bb, k' * 4, none⟩)) (d := 36) rfl rfl (by kernel_rfl) (by kernel_rfl) (by kernel_rfl) (fun _ _ _ h => h) (Or.inl ⟨by rfl, ?_⟩) hHeld ?_
    · (intro W hW; (try dsimp only at hW); go_simp)
    try simp only [Act.put, List.setIfInBounds_toArray, List.set_cons_zero, List.set_cons_succ]
    refine take2 rfl (i := 6) (v := .pointer (some ⟨bb, k' * 4 + 3, none⟩)) (d := 37) rfl rfl (by kernel_rfl) (by kernel_rfl) (by kernel_rfl) (fun _ _ _ h => h) (Or.inl ⟨by rfl, ?_⟩) hHeld ?_
    · (intro W hW; (try dsimp only at hW); go_simp)
    try simp only [Act.put, List.setIfInBounds_toArray, List.set_cons_zero, List.set_cons_succ]
    refine take2 rfl (i := 7) (v := .int .i64 (xa : Nat)) (d := 38) rfl rfl (by kernel_rfl) (by kernel_rfl) (by kernel_rfl) (fun _ _ _ h => h) (Or.inl ⟨by rfl, ?_⟩) hHeld ?_
    · (intro W hW; (try dsimp only at hW); go_simp)
    try simp only [Act.put, List.setIfInBounds_toArray, List.set_cons_zero, List.set_cons_succ]
    refine wpAnyH_ready (rs := [8]) (by kernel_rfl) (by simp) ?_
    refine cons2 rfl rfl (fun K9 hK => ?_)
    go_simp
    refine hK.out _ _ (⟨PP.out.c0, PP.out.c1, PP.out.w0 _ _ XA.out, PP.out.w1 _ _ XA.out, PP.out.w2 _ _ XA.out, PP.out.w3 _ _ XA.out⟩) (fun hX => ?_)
    clear hK K9 hHeld
    have hHeld := hX
    clear hX
    try simp only [Act.put, List.setIfInBounds_toArray, List.set_cons_zero, List.set_cons_succ]
    refine take2 rfl (i := 9) (v := .int .i64 (xa : Nat)) (d := 3) rfl rfl (by kernel_rfl) (by kernel_rfl) (by kernel_rfl) (fun _ _ _ h => h) (Or.inl ⟨by rfl, ?_⟩) hHeld ?_
    · (intro W hW; (try dsimp only at hW); go_simp)
    try simp only [Act.put, List.setIfInBounds_toArray, List.set_cons_zero, List.set_cons_succ]
    refine take2 rfl (i := 10) (v := .int .i64 7) (d := 4) rfl rfl (by kernel_rfl) (by kernel_rfl) (by kernel_rfl) (fun _ _ _ h => h) (Or.inl ⟨by rfl, ?_⟩) hHeld ?_
    · (intro W hW; (try dsimp only at hW); go_simp)
    try simp only [Act.put, List.setIfInBounds_toArray, List.set_cons_zero, List.set_cons_succ]
    refine wpAnyH_done (by kernel_rfl) ?_ _
    go_wp2
    generalize World.setCell _ ⟨w.heap.size, 5, none⟩ _ = w9 at *
    obtain ⟨f0, f1, f2, f3, f4, f5, _⟩ := BF.out
    exact bodyPost_ret (v := .tuple #[.agg #[.string ⟨#[]⟩, .string ⟨#[]⟩, .int .i64 0, .int .i64 0, .int .i64 0, .slice none 0 0], .int .i64 (xa : Nat), .int .i64 7]) (by simp [results, Tryd.results5, go_sem, f0, f1, f2, f3, f4, f5]) rfl (by rw [PF.out, AX.out]; exact ⟨GF.out, rfl⟩)

  | some t0 =>
    have rb1 : rb = true := RBH.out.symm
    subst rb1
    obtain rfl : t = t0 := HT5.out t0 rfl
    cases ro with
    | some ax =>
      have PF := hid (show R = .inr (ax, 2) from PX.out)
      have c2 := HP6.out.c2
      have c3 := HP6.out.c3
      simp only [Option.isSome_some, Option.getD_some] at c2 c3
      go_upto_region 9 with fail
      refine wp_region_held_drew (S := (fun W => W.cell? ⟨p, 3, none⟩ = some (.int .i64 (ax : Nat)))) (by kernel_rfl) c3 (fun hHeld => ?_)
      have HB7 := hid (HB.out.next (Below.refl w6.heap.size w6).drew)
      have HS7 := hid (nextB HS0.out (Below.refl w6.heap.size w6).drew)
      have HP7 := hid (HP6.out.next (Below.refl w6.heap.size w6).drew)
      generalize w6.drew = wz at *
      obtain ⟨r0, r1, r2, r3, r4, r5, rz⟩ := HB7.out
      have BF := hid (HB7.out.sets (.string ⟨#[]⟩) (.string ⟨#[]⟩) (.int .i64 0) (.int .i64 0) (.int .i64 0) (.slice none 0 0))
      have GF := hid (Below.put6 HS7.out (q := w.heap.size) (Nat.le_refl _) (.string ⟨#[]⟩) (.string ⟨#[]⟩) (.int .i64 0) (.int .i64 0) (.int .i64 0) (.slice none 0 0))
      have pw : p ≠ w.heap.size := by omega
      have bw : bb ≠ w.heap.size := by omega
      have PP := hid (HP7.out.put6 (q := w.heap.size) pw bw (.string ⟨#[]⟩) (.string ⟨#[]⟩) (.int .i64 0) (.int .i64 0) (.int .i64 0) (.slice none 0 0))
      refine take2 rfl (i := 0) (v := .agg #[.string ⟨#[]⟩, .string ⟨#[]⟩, .int .i64 0, .int .i64 0, .int .i64 0, .slice none 0 0]) (d := 42) rfl rfl (by kernel_rfl) (by kernel_rfl) (by kernel_rfl) (fun _ _ _ h => h) (Or.inl ⟨by rfl, ?_⟩) hHeld ?_
      · (intro W hW; (try dsimp only at hW); go_simp)
      try simp only [Act.put, List.setIfInBounds_toArray, List.set_cons_zero, List.set_cons_succ]
      refine take2 rfl (i := 1) (v := .pointer (some ⟨p, 3, none⟩)) (d := 43) rfl rfl (by kernel_rfl) (by kernel_rfl) (by kernel_rfl) (fun _ _ _ h => h) (Or.inl ⟨by rfl, ?_⟩) hHeld ?_
      · (intro W hW; (try dsimp only at hW); go_simp)
      try simp only [Act.put, List.setIfInBounds_toArray, List.set_cons_zero, List.set_cons_succ]
      refine take2 rfl (i := 2) (v := .int .i64 (ax : Nat)) (d := 44) rfl rfl (by kernel_rfl) (by kernel_rfl) (by kernel_rfl) (fun _ _ _ h => h) (Or.inl ⟨by rfl, ?_⟩) hHeld ?_
      · (intro W hW; (try dsimp only at hW); go_simp)
      try simp only [Act.put, List.setIfInBounds_toArray, List.set_cons_zero, List.set_cons_succ]
      refine wpAnyH_ready (rs := [3]) (by kernel_rfl) (by simp) ?_
      refine cons2 rfl rfl (fun K9 hK => ?_)
      go_simp
      refine hK.out _ _ (PP.out.c3) (fun hX => ?_)
      clear hK K9 hHeld
      have hHeld := hX
      clear hX
      try simp only [Act.put, List.setIfInBounds_toArray, List.set_cons_zero, List.set_cons_succ]
      refine take2 rfl (i := 4) (v := .int .i64 (ax : Nat)) (d := 3) rfl rfl (by kernel_rfl) (by kernel_rfl) (by kernel_rfl) (fun _ _ _ h => h) (Or.inl ⟨by rfl, ?_⟩) hHeld ?_
      · (intro W hW; (try dsimp only at hW); go_simp)
      try simp only [Act.put, List.setIfInBounds_toArray, List.set_cons_zero, List.set_cons_succ]
      refine take2 rfl (i := 5) (v := .int .i64 2) (d := 4) rfl rfl (by kernel_rfl) (by kernel_rfl) (by kernel_rfl) (fun _ _ _ h => h) (Or.inl ⟨by rfl, ?_⟩) hHeld ?_
      · (intro W hW; (try dsimp only at hW); go_simp)
      try simp only [Act.put, List.setIfInBounds_toArray, List.set_cons_zero, List.set_cons_succ]
      refine wpAnyH_done (by kernel_rfl) ?_ _
      go_wp2
      generalize World.setCell _ ⟨w.heap.size, 5, none⟩ _ = w9 at *
      obtain ⟨f0, f1, f2, f3, f4, f5, _⟩ := BF.out
      exact bodyPost_ret (v := .tuple #[.agg #[.string ⟨#[]⟩, .string ⟨#[]⟩, .int .i64 0, .int .i64 0, .int .i64 0, .slice none 0 0], .int .i64 (ax : Nat), .int .i64 2]) (by simp [results, Tryd.results5, go_sem, f0, f1, f2, f3, f4, f5]) rfl (by rw [PF.out]; exact ⟨GF.out, rfl⟩)

    | none =>
      have PF := hid (show R = .inl t from PX.out)
      have c2 := HP6.out.c2
      simp only [Option.isSome_none] at c2
      obtain ⟨n0, n1, n2, n3, n4, n5, _⟩ := B9.out
      obtain ⟨r0, r1, r2, r3, r4, r5, rz⟩ := HB.out
      have BF := hid (HB.out.sets (.string t.op) (.string t.name) (.int .i64 (t.kind : Nat)) (.int .i64 t.n) (.int .i64 (t.pl : Nat)) (.slice sa sm sc))
      have GF := hid (Below.put6 HS0.out (q := w.heap.size) (Nat.le_refl _) (.string t.op) (.string t.name) (.int .i64 (t.kind : Nat)) (.int .i64 t.n) (.int .i64 (t.pl : Nat)) (.slice sa sm sc))
      have NF := hid (HN6.out.put6w (q := w.heap.size) (m := w.heap.size) (by omega) (.string t.op) (.string t.name) (.int .i64 (t.kind : Nat)) (.int .i64 t.n) (.int .i64 (t.pl : Nat)) (.slice sa sm sc))
      go_wp2_with fail
      generalize World.setCell _ ⟨w.heap.size, 5, none⟩ _ = w9 at *
      obtain ⟨f0, f1, f2, f3, f4, f5, _⟩ := BF.out
      exact bodyPost_ret (v := .tuple #[.agg #[.string t.op, .string t.name, .int .i64 (t.kind : Nat), .int .i64 t.n, .int .i64 (t.pl : Nat), .slice sa sm sc], .int .i64 0, .int .i64 0]) (by simp [results, Tryd.results5, go_sem, f0, f1, f2, f3, f4, f5]) rfl (by rw [PF.out]; exact ⟨GF.out, _, rfl, ⟨_, rfl, NF.out⟩⟩)
end Go.Proofs.YtobolipjgkabhaaDoor
