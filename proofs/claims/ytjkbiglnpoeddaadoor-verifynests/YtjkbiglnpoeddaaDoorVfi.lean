/- The walk over verify's ways. -/
import Derived.Test.YtjkbiglnpoeddaaDoorVfh
namespace Go.Proofs.YtjkbiglnpoeddaaDoor.Vf
open Go.RowKit
set_option linter.unusedVariables false
set_option linter.unusedSimpArgs false

theorem Bx.q3 {w : World} {q : Nat} {T : TypeId} {a b c : Value} (h : Bx w q T #[a, b, c]) : w.cell? ⟨q, 0, none⟩ = some a ∧ w.cell? ⟨q, 1, none⟩ = some b ∧ w.cell? ⟨q, 2, none⟩ = some c := ⟨h.cell 0 _ rfl, h.cell 1 _ rfl, h.cell 2 _ rfl⟩
theorem all_at {α : Type} {f : α → Bool} {ls : List α} (h : ∀ (k : Nat) l, k < ls.length → ls[k]? = some l → f l = true) : ls.all f = true := by
  rw [List.all_eq_true]
  intro l hl
  obtain ⟨k, hk, rfl⟩ := List.mem_iff_getElem.1 hl
  exact h k _ hk (List.getElem?_eq_getElem hk)
theorem all_no {α : Type} {f : α → Bool} {ls : List α} {k : Nat} {l : α} (h : ls[k]? = some l) (hf : f l = false) : ls.all f = false := by
  rw [List.all_eq_false]
  exact ⟨l, List.mem_of_getElem? h, by rw [hf]; decide⟩
theorem nx_all {α : Type} {f : α → Bool} {ls : List α} {n : Nat} {x : α} (h : ∀ (k : Nat) l, k < n → ls[k]? = some l → f l = true) (hx : ls[n]? = some x) (hq : f x = true) : ∀ (k : Nat) l, k < n + 1 → ls[k]? = some l → f l = true := fun j y hj hy => by
  by_cases e : j = n
  · subst e; rw [hx] at hy; injection hy with hy; subst hy; exact hq
  · exact h j y (by omega) hy
theorem Bx.set {w : World} {p : Nat} {T : TypeId} {cs : Array Value} (h : Bx w p T cs) (i : Nat) (v : Value) : Bx (w.setCell ⟨p, i, none⟩ v) p T (cs.setIfInBounds i v) :=
  ⟨by simp [World.setCell, Array.getElem?_modify, h.at_], h.ty⟩
def aL (w : World) (g p : Nat) (x : Lp) : Prop := w.cell? ⟨g, p, none⟩ = some (.int .i64 x.1) ∧ w.cell? ⟨g, p + 1, none⟩ = some (.int .i64 x.2.1) ∧ w.cell? ⟨g, p + 2, none⟩ = some (.int .i64 x.2.2)
theorem aL_nx : Nx aL := fun _ _ _ _ _ h b => ⟨celB b h.1, celB b h.2.1, celB b h.2.2⟩
/-- The loops as they are read. -/
theorem lp_view {w : World} {B : Nat} {v : Value} {ls : List Lp} (h : Qf 65 3 fL w B v ls) : ∃ a c, v = .slice a ls.length c ∧ Vw aL 3 w a ls.length ls := by
  obtain ⟨a, c, e, V⟩ := h.view (fun _ => rfl) (fun x => x) (A := aL) fun g p x _ hc => ⟨hc 0 _ rfl, hc 1 _ rfl, hc 2 _ rfl⟩
  rw [List.map_id'] at V
  exact ⟨a, c, e, V⟩
theorem lp_all {w : World} {a : Option Addr} {m : Nat} {xs : List Lp} (h : Vw aL 3 w a m xs) (hm : 0 < m) : ∃ g o : Nat, a = some ⟨g, o, none⟩ ∧ ∀ (i : Nat) (x : Lp), xs[i]? = some x → aL w g (o + i * 3) x := by
  obtain ⟨g, o, h1, h2⟩ := h.at_
  exact ⟨g, o, h1 hm, h2⟩
/-- Does an instruction keep to a loop? Is it as the fourth rule asks? -/
def lkB (pc : Int) (i : Ins) (l : Lp) : Bool := !(((tgF i).2 && (hdB l (tgF i).1 != hdB l pc)) || (hdB l pc && spB i l))
def wyB (co : List Ins) (pc : Nat) (i : Ins) : Bool := ahB co.length (pc : Int) i && prB co (pc : Int) i && (prT co co.length).all (lkB (pc : Int) i)
def waysF (p : Pg) : Option Nat := frstP (wyB p.co) 0 p.co
theorem prT_has {co : List Ins} : ∀ {n : Nat} {l : Lp}, l ∈ prT co n → ∃ (k : Nat) (x : Ins), co[k]? = some x ∧ x.1 = 19 ∧ l = ((k : Int), x.2.2.2 - 1, x.2.2.1)
  | 0, l, h => by simp [prT] at h
  | n + 1, l, h => by
    rcases List.mem_append.1 (show l ∈ prT co n ++ _ from h) with h | h
    · exact prT_has h
    · split at h
      · rename_i x hx
        unfold lpK at h
        split at h
        · split at h
          · split at h
            · simp at h; exact ⟨n, x, hx, by assumption, h⟩
            · simp at h
          · simp at h
        · simp at h
      · simp at h
theorem th_b {p : Pg} {x : Ins} (h : thB p x = true) (h19 : x.1 = 19) (hm : p.sl.length ≤ 1000000) : 0 ≤ x.2.2.1 ∧ x.2.2.1 ≤ 1000000 := by
  have e : thB p x = (liB p x.2.1 && paB p x.2.2.1) := by
    unfold thB
    rw [h19]
    rfl
  rw [e] at h
  unfold paB plB at h
  simp only [Bool.and_eq_true, decide_eq_true_eq] at h
  omega
/-- What ways leaves. -/
structure WyP (w w' : World) (c : Nat) (s : S7) (p : Pg) (st sk : Int) (v : Value) : Prop where
  kx : Kx [c] w w'
  ck : Ck w' c s v st sk
  row : Qf 65 3 fL w' w.heap.size v (prT p.co p.co.length)
set_option maxRecDepth 100000 in
set_option maxHeartbeats 8000000 in
theorem ways_any {W0 w : World} {c : Nat} {s : S7} {p : Pg} {lv : Value} {st sk : Int} (hP0 : Pv W0 s p) (hT0 : RT W0) (hB0 : Below W0.heap.size W0 w) (hc : W0.heap.size ≤ c) (hC : Ck w c s lv st sk) (hn : s.m6 ≤ 1000000) (h0 : 0 < s.m6) (hm : s.m4 ≤ 1000000) (hO : ∀ x, x ∈ p.co → thB p x = true) :
    Calls Tryd.prog 11 #[.pointer (some ⟨c, 0, none⟩)] w fun e w' => ∃ v, e = .returned (resO (waysF p)) ∧ WyP w w' c s p st sk v := by
  have hP := hP0.next hB0
  have hT := hT0.next hB0
  have L := hid hP.k6.len
  have L4 := hid hP.k4.len
  have C := hid hC
  have V := hid hP0
  have T := hid hT0
  have KP := hid (pairs_any hC hP hT hn h0)
  have N6 := hid hn
  have Z6 := hid h0
  have HO := hid hO
  have LB := hid (prT_len p.co p.co.length)
  have HL := hid (fun l (hl : l ∈ prT p.co p.co.length) => show 0 ≤ l.2.2 ∧ l.2.2 ≤ 1000000 from by
    obtain ⟨k, x, hx, h19, rfl⟩ := prT_has hl
    exact th_b (HO.out x (List.mem_of_getElem? hx)) h19 (by have := L4.out; omega))
  have HB := hid (fun x (hx : x ∈ p.co) (h19 : x.1 = 19) => th_b (HO.out x hx) h19 (by have := L4.out; omega))
  obtain ⟨R, hR⟩ : ∃ R, waysF p = R := ⟨_, rfl⟩
  have RH := hid hR
  rw [hR]
  have RH := hid (show frstP (fun pc i => ahB p.co.length (pc : Int) i && prB p.co (pc : Int) i && (prT p.co p.co.length).all (lkB (pc : Int) i)) 0 p.co = R from RH.out)
  have mb : (s.m6 : Int) ≤ 1000000 := by omega
  have CL := Bx.lt hC
  have B0 := hid hB0
  have HC := hid hc
  have LN := hid (show (prT p.co p.co.length).length ≤ 1000000 from by have := LB.out; have := L.out; have := N6.out; omega)
  have W2 := hid (fun w' (x : WyP w w' c s p st sk (.slice none 0 0) → True) => trivial)
  clear hC hT hn h0 hO hR hm hP hP0 hT0 hB0 hc W2
  obtain ⟨ls, hls⟩ : ∃ ls, prT p.co p.co.length = ls := ⟨_, rfl⟩
  have HLS := hid hls
  rw [hls] at KP LB HL RH LN
  clear hls
  go_enter Tryd.func11, Tryd.ntmps11
  go_upto_region 2 with (go_at_call 23; (with_reducible refine Calls.mono KP.out ?_); rintro e w1 ⟨v, rfl, i1⟩; obtain ⟨la, lc, ev⟩ := i1.row.slice; subst ev; have I1 := hid i1; have C1 := hid (Bx.next C.out i1.bl); clear i1; have c7 := C1.out.cell 7 _ rfl; have fz := Bx.fz2 C1.out)
  have C2 := hid (show Ck (w1.setCell ⟨c, 7, none⟩ (.slice la ls.length lc)) c s (.slice la ls.length lc) st sk from Bx.set C1.out 7 _)
  have K2 := hid ((Kx.of [c] I1.out.bl).set (p := c) (i := 7) (.slice la ls.length lc) (by simp))
  have R2 := hid (I1.out.row.but (grownBy_setCell w1 c 7 (.slice la ls.length lc)) CL)
  clear c7 fz C1 I1 KP C
  generalize World.setCell w1 ⟨c, 7, none⟩ _ = w2 at *
  have B2 := hid (B0.out.trans (K2.out.bel B0.out.size (fun i hi => by simp at hi; subst hi; exact HC.out)))
  obtain ⟨g, o, ea, hI⟩ := ins_all (V.out.next B2.out).k6 Z6.out
  have IC := hid hI
  obtain ⟨la2, lc2, ev, hV⟩ := lp_view R2.out
  injection ev with e1 _ e3
  subst e1 e3
  have LV := hid hV
  have c6 : w2.cell? ⟨c, 6, none⟩ = some (.slice (some ⟨g, o, none⟩) s.m6 s.c6) := by rw [← ea]; exact C2.out.cell 6 _ rfl
  have c7 : w2.cell? ⟨c, 7, none⟩ = some (.slice la ls.length lc) := C2.out.cell 7 _ rfl
  have C7 := hid c7
  have W2 := hid (fun w' (b : Below w2.heap.size w2 w') => show WyP w w' c s p st sk (.slice la ls.length lc) from ⟨K2.out.next b, Bx.next C2.out b, by rw [HLS.out]; exact R2.out.next b⟩)
  have KA := hid (fun W (b : Below w2.heap.size w2 W) pc x => isAhead_any (Bx.next C2.out b) ((V.out.next B2.out).next b) ((T.out.next B2.out).next b) N6.out pc x)
  have KB := hid (fun W (b : Below w2.heap.size w2 W) pc hpc x h => isPaired_any (Bx.next C2.out b) ((V.out.next B2.out).next b) ((T.out.next B2.out).next b) N6.out Z6.out pc hpc x h)
  have KT := hid (fun W (b : Below w2.heap.size w2 W) x => target_any ((T.out.next B2.out).next b) x)
  have KS := hid (fun W (b : Below w2.heap.size w2 W) x l hl hb => spoils_any ((T.out.next B2.out).next b) x l hl hb)
  have VX := hid (fun i (hi : i < s.m6) => Vw.ex V.out.k6 hi)
  rw [L.out] at RH KA
  clear hI hV ea K2 R2 B2 B0 T V C2 CL
  go_wp2_with fail
  go_loopg [22] (s.m6) (fun g kv wr => ∃ i : Nat, i ≤ s.m6 ∧ g = s.m6 - i ∧ kv = .int .i64 (i : Nat) ∧ Hid (Below w2.heap.size w2 wr) ∧ Hid (∀ j x, j < i → p.co[j]? = some x → (ahB s.m6 (j : Int) x && prB p.co (j : Int) x && ls.all (lkB (j : Int) x)) = true))
  case atStart => exact ⟨0, Nat.zero_le _, rfl, rfl, Below.refl _ _, fun j x hj => by omega⟩
  case round =>
    obtain ⟨i, hi, rfl, rfl, HBe, HA⟩ := hrel
    by_cases q : i < s.m6
    · have q' : (i : Int) < (s.m6 : Int) := by omega
      obtain ⟨x, hx⟩ := VX.out i q
      obtain ⟨h0, h1, h2, h3⟩ := IC.out i x hx
      have k0 := celB HBe.out h0
      have k1 := celB HBe.out h1
      have k2 := celB HBe.out h2
      have k3 := celB HBe.out h3
      have AL := allocB wr (.cells #[.int .i64 x.1, .int .i64 x.2.1, .int .i64 x.2.2.1, .int .i64 x.2.2.2] 37)
      have X3 := hid (Bx.new wr #[.int .i64 x.1, .int .i64 x.2.1, .int .i64 x.2.2.1, .int .i64 x.2.2.2] 37 (by decide))
      have B3 := hid (nxB HBe.out AL)
      have HX := hid hx
      have XM := hid (List.mem_of_getElem? hx)
      clear h0 h1 h2 h3 hx AL HBe
      go_upto_region 5 with fail
      clear k0 k1 k2 k3
      generalize World.alloc wr _ = w3 at *
      generalize wr.heap.size = xb at *
      obtain ⟨x0, x1, x2, x3⟩ := Bx.q4 X3.out
      have KA3 := hid (KA.out w3 B3.out (i : Int) x)
      cases za : ahB s.m6 (i : Int) x with
      | false =>
        rw [za] at KA3
        have HF := hid (show R = some i from by rw [← RH.out]; exact frst_at HA.out HX.out (by rw [za]; rfl))
        clear za
        go_wp2_with (go_at_call 24; (with_reducible refine Calls.mono KA3.out ?_); rintro e w4 ⟨rfl, b4⟩; have B4 := hid (nxB B3.out b4); clear b4)
        go_returns
        exact ⟨.slice la ls.length lc, by rw [HF.out]; rfl, W2.out _ B4.out⟩
      | true =>
        rw [za] at KA3
        have AH := hid (fun (h : x.1 = 19) => ah_is h za)
        cases zb : prB p.co (i : Int) x with
        | false =>
          have KBZ := hid (fun W b => show Calls Tryd.prog 25 #[.pointer (some ⟨c, 0, none⟩), .int .i64 (i : Nat), .agg #[.int .i64 x.1, .int .i64 x.2.1, .int .i64 x.2.2.1, .int .i64 x.2.2.2]] W fun e w' => e = .returned (.bool false) ∧ Below W.heap.size W w' from by rw [← zb]; exact KB.out W b i q x AH.out)
          have HF := hid (show R = some i from by rw [← RH.out]; exact frst_at HA.out HX.out (by rw [za, zb]; rfl))
          clear za zb
          go_wp2_with (first | (go_at_call 24; (with_reducible refine Calls.mono KA3.out ?_); rintro e w4 ⟨rfl, b4⟩; have B4 := hid (nxB B3.out b4); have X4 := hid (Bx.next X3.out b4); clear b4 x0 x1 x2 x3 KA3; obtain ⟨x0, x1, x2, x3⟩ := Bx.q4 X4.out) | (go_at_call 25; (with_reducible refine Calls.mono (KBZ.out _ B4.out) ?_); rintro e w5 ⟨rfl, b5⟩; have B5 := hid (nxB B4.out b5); clear b5))
          go_returns
          exact ⟨.slice la ls.length lc, by rw [HF.out]; rfl, W2.out _ B5.out⟩
        | true =>
          have KBZ := hid (fun W b => show Calls Tryd.prog 25 #[.pointer (some ⟨c, 0, none⟩), .int .i64 (i : Nat), .agg #[.int .i64 x.1, .int .i64 x.2.1, .int .i64 x.2.2.1, .int .i64 x.2.2.2]] W fun e w' => e = .returned (.bool true) ∧ Below W.heap.size W w' from by rw [← zb]; exact KB.out W b i q x AH.out)
          have HZ := hid (show (ahB s.m6 (i : Int) x && prB p.co (i : Int) x && ls.all (lkB (i : Int) x)) = ls.all (lkB (i : Int) x) from by rw [za, zb]; rfl)
          clear za zb
          obtain ⟨t, ht⟩ : ∃ t, tgF x = t := ⟨_, rfl⟩
          have TG := hid ht
          have KTT := hid (fun W b => show Calls Tryd.prog 26 #[.agg #[.int .i64 x.1, .int .i64 x.2.1, .int .i64 x.2.2.1, .int .i64 x.2.2.2]] W fun e w' => e = .returned (.tuple #[.int .i64 t.1, .bool t.2]) ∧ Below W.heap.size W w' from by rw [← TG.out]; exact KT.out W b x)
          clear ht
          go_upto_region 8 with (first | (go_at_call 24; (with_reducible refine Calls.mono KA3.out ?_); rintro e w4 ⟨rfl, b4⟩; have B4 := hid (nxB B3.out b4); have X4 := hid (Bx.next X3.out b4); clear b4 x0 x1 x2 x3 KA3 B3 X3; obtain ⟨x0, x1, x2, x3⟩ := Bx.q4 X4.out) | (go_at_call 25; (with_reducible refine Calls.mono (KBZ.out _ B4.out) ?_); rintro e w5 ⟨rfl, b5⟩; have B5 := hid (nxB B4.out b5); have X5 := hid (Bx.next X4.out b5); clear b5 x0 x1 x2 x3 B4 X4; obtain ⟨x0, x1, x2, x3⟩ := Bx.q4 X5.out) | (go_at_call 26; (with_reducible refine Calls.mono (KTT.out _ B5.out) ?_); rintro e w6 ⟨rfl, b6⟩; have B6 := hid (nxB B5.out b6); have X6 := hid (Bx.next X5.out b6); clear b6 x0 x1 x2 x3 B5 X5))
          have d7 := celB B6.out C7.out
          have lb : (ls.length : Int) ≤ 1000000 := by have := LN.out; omega
          obtain ⟨t1, t2⟩ := t
          dsimp only at KTT
          go_wp2_with fail
          clear d7
          go_loopg [50] (ls.length) (fun g kv wr => ∃ j : Nat, j ≤ ls.length ∧ g = ls.length - j ∧ kv = .int .i64 (j : Nat) ∧ Hid (Below w6.heap.size w6 wr) ∧ Hid (∀ k l, k < j → ls[k]? = some l → lkB (i : Int) x l = true))
          case atStart => exact ⟨0, Nat.zero_le _, rfl, rfl, Below.refl _ _, fun j x hj => by omega⟩
          case round =>
            obtain ⟨j, hj, rfl, rfl, HBi, HAi⟩ := hrel
            by_cases qj : j < ls.length
            · have qj' : (j : Int) < (ls.length : Int) := by omega
              obtain ⟨l, hl⟩ : ∃ l, ls[j]? = some l := ⟨_, List.getElem?_eq_getElem qj⟩
              obtain ⟨gl, ol, rfl, hla⟩ := lp_all LV.out (show 0 < ls.length by omega)
              obtain ⟨m0, m1, m2⟩ := aL_nx _ _ _ _ _ (hla j l hl) (nxB B6.out HBi.out)
              have LX := hid hl
              have LM := hid (List.mem_of_getElem? hl)
              have AL := allocB wr (.cells #[.int .i64 l.1, .int .i64 l.2.1, .int .i64 l.2.2] 65)
              have X7 := hid (Bx.new wr #[.int .i64 l.1, .int .i64 l.2.1, .int .i64 l.2.2] 65 (by decide))
              have B7 := hid (nxB HBi.out AL)
              have Y7 := hid (Bx.next X6.out B7.out)
              clear hl hla AL HBi
              have KE := hid (show lkB (i : Int) x l = !((t2 && (hdB l t1 != hdB l (i : Int))) || (hdB l (i : Int) && spB x l)) from by unfold lkB; rw [TG.out])
              have KH := hid (fun W => holds_any W l (i : Int))
              have KG := hid (fun W => holds_any W l t1)
              have KZ := hid (fun W b => KS.out W b x l (HL.out l LM.out) (HB.out x XM.out))
              generalize hdB l (i : Int) = hin at *
              generalize hdB l t1 = hto at *
              generalize spB x l = sp at *
              go_upto_region 11 with fail
              clear m0 m1 m2
              generalize World.alloc wr _ = w7 at *
              generalize wr.heap.size = yb at *
              obtain ⟨z0, z1, z2⟩ := Bx.q3 X7.out
              obtain ⟨x0, x1, x2, x3⟩ := Bx.q4 Y7.out
              have KH7 := hid (KH.out w7)
              have KG7 := 0
              clear KG7
              cases t2 <;> cases hin <;> cases hto <;> cases sp
              · have KE := hid (show lkB (i : Int) x l = true from by rw [KE.out]; rfl)
                have B_w7 := hid B7.out
                have X_w7 := hid X7.out
                have Y_w7 := hid Y7.out
                clear B7 X7 Y7
                go_wp2_with (first | (go_at_call 27; (with_reducible refine Calls.mono KH7.out ?_); rintro e w8 ⟨rfl, b9⟩; have B_w8 := hid (nxB B_w7.out b9); have X_w8 := hid (Bx.next X_w7.out b9); have Y_w8 := hid (Bx.next Y_w7.out b9); clear b9 z0 z1 z2 x0 x1 x2 x3 B_w7 X_w7 Y_w7; obtain ⟨z0, z1, z2⟩ := Bx.q3 X_w8.out; obtain ⟨x0, x1, x2, x3⟩ := Bx.q4 Y_w8.out))
                go_roundg (ls.length - (j + 1))
                case measure => omega
                case rel => exact ⟨j + 1, by omega, rfl, by rw [Int.natCast_add]; rfl, B_w8.out, nx_all HAi.out LX.out KE.out⟩
              · have KE := hid (show lkB (i : Int) x l = true from by rw [KE.out]; rfl)
                have B_w7 := hid B7.out
                have X_w7 := hid X7.out
                have Y_w7 := hid Y7.out
                clear B7 X7 Y7
                go_wp2_with (first | (go_at_call 27; (with_reducible refine Calls.mono KH7.out ?_); rintro e w8 ⟨rfl, b9⟩; have B_w8 := hid (nxB B_w7.out b9); have X_w8 := hid (Bx.next X_w7.out b9); have Y_w8 := hid (Bx.next Y_w7.out b9); clear b9 z0 z1 z2 x0 x1 x2 x3 B_w7 X_w7 Y_w7; obtain ⟨z0, z1, z2⟩ := Bx.q3 X_w8.out; obtain ⟨x0, x1, x2, x3⟩ := Bx.q4 Y_w8.out))
                go_roundg (ls.length - (j + 1))
                case measure => omega
                case rel => exact ⟨j + 1, by omega, rfl, by rw [Int.natCast_add]; rfl, B_w8.out, nx_all HAi.out LX.out KE.out⟩
              · have KE := hid (show lkB (i : Int) x l = true from by rw [KE.out]; rfl)
                have B_w7 := hid B7.out
                have X_w7 := hid X7.out
                have Y_w7 := hid Y7.out
                clear B7 X7 Y7
                go_wp2_with (first | (go_at_call 27; (with_reducible refine Calls.mono KH7.out ?_); rintro e w8 ⟨rfl, b9⟩; have B_w8 := hid (nxB B_w7.out b9); have X_w8 := hid (Bx.next X_w7.out b9); have Y_w8 := hid (Bx.next Y_w7.out b9); clear b9 z0 z1 z2 x0 x1 x2 x3 B_w7 X_w7 Y_w7; obtain ⟨z0, z1, z2⟩ := Bx.q3 X_w8.out; obtain ⟨x0, x1, x2, x3⟩ := Bx.q4 Y_w8.out))
                go_roundg (ls.length - (j + 1))
                case measure => omega
                case rel => exact ⟨j + 1, by omega, rfl, by rw [Int.natCast_add]; rfl, B_w8.out, nx_all HAi.out LX.out KE.out⟩
              · have KE := hid (show lkB (i : Int) x l = true from by rw [KE.out]; rfl)
                have B_w7 := hid B7.out
                have X_w7 := hid X7.out
                have Y_w7 := hid Y7.out
                clear B7 X7 Y7
                go_wp2_with (first | (go_at_call 27; (with_reducible refine Calls.mono KH7.out ?_); rintro e w8 ⟨rfl, b9⟩; have B_w8 := hid (nxB B_w7.out b9); have X_w8 := hid (Bx.next X_w7.out b9); have Y_w8 := hid (Bx.next Y_w7.out b9); clear b9 z0 z1 z2 x0 x1 x2 x3 B_w7 X_w7 Y_w7; obtain ⟨z0, z1, z2⟩ := Bx.q3 X_w8.out; obtain ⟨x0, x1, x2, x3⟩ := Bx.q4 Y_w8.out))
                go_roundg (ls.length - (j + 1))
                case measure => omega
                case rel => exact ⟨j + 1, by omega, rfl, by rw [Int.natCast_add]; rfl, B_w8.out, nx_all HAi.out LX.out KE.out⟩
              · have KE := hid (show lkB (i : Int) x l = true from by rw [KE.out]; rfl)
                have B_w7 := hid B7.out
                have X_w7 := hid X7.out
                have Y_w7 := hid Y7.out
                clear B7 X7 Y7
                go_wp2_with (first | (go_at_call 27; (with_reducible refine Calls.mono KH7.out ?_); rintro e w8 ⟨rfl, b9⟩; have B_w8 := hid (nxB B_w7.out b9); have X_w8 := hid (Bx.next X_w7.out b9); have Y_w8 := hid (Bx.next Y_w7.out b9); clear b9 z0 z1 z2 x0 x1 x2 x3 B_w7 X_w7 Y_w7; obtain ⟨z0, z1, z2⟩ := Bx.q3 X_w8.out; obtain ⟨x0, x1, x2, x3⟩ := Bx.q4 Y_w8.out) | (go_at_call 28; (with_reducible refine Calls.mono (KZ.out _ (nxB B6.out B_w8.out)) ?_); rintro e wa ⟨rfl, b9⟩; have B_wa := hid (nxB B_w8.out b9); have X_wa := hid (Bx.next X_w8.out b9); have Y_wa := hid (Bx.next Y_w8.out b9); clear b9 z0 z1 z2 x0 x1 x2 x3 B_w8 X_w8 Y_w8; obtain ⟨z0, z1, z2⟩ := Bx.q3 X_wa.out; obtain ⟨x0, x1, x2, x3⟩ := Bx.q4 Y_wa.out))
                go_roundg (ls.length - (j + 1))
                case measure => omega
                case rel => exact ⟨j + 1, by omega, rfl, by rw [Int.natCast_add]; rfl, B_wa.out, nx_all HAi.out LX.out KE.out⟩
              · have KE := hid (show lkB (i : Int) x l = false from by rw [KE.out]; rfl)
                have B_w7 := hid B7.out
                have X_w7 := hid X7.out
                have Y_w7 := hid Y7.out
                clear B7 X7 Y7
                go_wp2_with (first | (go_at_call 27; (with_reducible refine Calls.mono KH7.out ?_); rintro e w8 ⟨rfl, b9⟩; have B_w8 := hid (nxB B_w7.out b9); have X_w8 := hid (Bx.next X_w7.out b9); have Y_w8 := hid (Bx.next Y_w7.out b9); clear b9 z0 z1 z2 x0 x1 x2 x3 B_w7 X_w7 Y_w7; obtain ⟨z0, z1, z2⟩ := Bx.q3 X_w8.out; obtain ⟨x0, x1, x2, x3⟩ := Bx.q4 Y_w8.out) | (go_at_call 28; (with_reducible refine Calls.mono (KZ.out _ (nxB B6.out B_w8.out)) ?_); rintro e wa ⟨rfl, b9⟩; have B_wa := hid (nxB B_w8.out b9); have X_wa := hid (Bx.next X_w8.out b9); have Y_wa := hid (Bx.next Y_w8.out b9); clear b9 z0 z1 z2 x0 x1 x2 x3 B_w8 X_w8 Y_w8; obtain ⟨z0, z1, z2⟩ := Bx.q3 X_wa.out; obtain ⟨x0, x1, x2, x3⟩ := Bx.q4 Y_wa.out))
                have HF := hid (show R = some i from by rw [← RH.out]; exact frst_at HA.out HX.out (by rw [HZ.out]; exact all_no LX.out KE.out))
                go_returns
                exact ⟨_, by rw [HF.out]; rfl, W2.out _ (nxB B6.out B_wa.out)⟩
              · have KE := hid (show lkB (i : Int) x l = true from by rw [KE.out]; rfl)
                have B_w7 := hid B7.out
                have X_w7 := hid X7.out
                have Y_w7 := hid Y7.out
                clear B7 X7 Y7
                go_wp2_with (first | (go_at_call 27; (with_reducible refine Calls.mono KH7.out ?_); rintro e w8 ⟨rfl, b9⟩; have B_w8 := hid (nxB B_w7.out b9); have X_w8 := hid (Bx.next X_w7.out b9); have Y_w8 := hid (Bx.next Y_w7.out b9); clear b9 z0 z1 z2 x0 x1 x2 x3 B_w7 X_w7 Y_w7; obtain ⟨z0, z1, z2⟩ := Bx.q3 X_w8.out; obtain ⟨x0, x1, x2, x3⟩ := Bx.q4 Y_w8.out) | (go_at_call 28; (with_reducible refine Calls.mono (KZ.out _ (nxB B6.out B_w8.out)) ?_); rintro e wa ⟨rfl, b9⟩; have B_wa := hid (nxB B_w8.out b9); have X_wa := hid (Bx.next X_w8.out b9); have Y_wa := hid (Bx.next Y_w8.out b9); clear b9 z0 z1 z2 x0 x1 x2 x3 B_w8 X_w8 Y_w8; obtain ⟨z0, z1, z2⟩ := Bx.q3 X_wa.out; obtain ⟨x0, x1, x2, x3⟩ := Bx.q4 Y_wa.out))
                go_roundg (ls.length - (j + 1))
                case measure => omega
                case rel => exact ⟨j + 1, by omega, rfl, by rw [Int.natCast_add]; rfl, B_wa.out, nx_all HAi.out LX.out KE.out⟩
              · have KE := hid (show lkB (i : Int) x l = false from by rw [KE.out]; rfl)
                have B_w7 := hid B7.out
                have X_w7 := hid X7.out
                have Y_w7 := hid Y7.out
                clear B7 X7 Y7
                go_wp2_with (first | (go_at_call 27; (with_reducible refine Calls.mono KH7.out ?_); rintro e w8 ⟨rfl, b9⟩; have B_w8 := hid (nxB B_w7.out b9); have X_w8 := hid (Bx.next X_w7.out b9); have Y_w8 := hid (Bx.next Y_w7.out b9); clear b9 z0 z1 z2 x0 x1 x2 x3 B_w7 X_w7 Y_w7; obtain ⟨z0, z1, z2⟩ := Bx.q3 X_w8.out; obtain ⟨x0, x1, x2, x3⟩ := Bx.q4 Y_w8.out) | (go_at_call 28; (with_reducible refine Calls.mono (KZ.out _ (nxB B6.out B_w8.out)) ?_); rintro e wa ⟨rfl, b9⟩; have B_wa := hid (nxB B_w8.out b9); have X_wa := hid (Bx.next X_w8.out b9); have Y_wa := hid (Bx.next Y_w8.out b9); clear b9 z0 z1 z2 x0 x1 x2 x3 B_w8 X_w8 Y_w8; obtain ⟨z0, z1, z2⟩ := Bx.q3 X_wa.out; obtain ⟨x0, x1, x2, x3⟩ := Bx.q4 Y_wa.out))
                have HF := hid (show R = some i from by rw [← RH.out]; exact frst_at HA.out HX.out (by rw [HZ.out]; exact all_no LX.out KE.out))
                go_returns
                exact ⟨_, by rw [HF.out]; rfl, W2.out _ (nxB B6.out B_wa.out)⟩
              · have KE := hid (show lkB (i : Int) x l = true from by rw [KE.out]; rfl)
                have B_w7 := hid B7.out
                have X_w7 := hid X7.out
                have Y_w7 := hid Y7.out
                clear B7 X7 Y7
                go_wp2_with (first | (go_at_call 27; (with_reducible refine Calls.mono KH7.out ?_); rintro e w8 ⟨rfl, b9⟩; have B_w8 := hid (nxB B_w7.out b9); have X_w8 := hid (Bx.next X_w7.out b9); have Y_w8 := hid (Bx.next Y_w7.out b9); clear b9 z0 z1 z2 x0 x1 x2 x3 B_w7 X_w7 Y_w7; obtain ⟨z0, z1, z2⟩ := Bx.q3 X_w8.out; obtain ⟨x0, x1, x2, x3⟩ := Bx.q4 Y_w8.out) | (go_at_call 27; (with_reducible refine Calls.mono (KG.out _) ?_); rintro e w9 ⟨rfl, b9⟩; have B_w9 := hid (nxB B_w8.out b9); have X_w9 := hid (Bx.next X_w8.out b9); have Y_w9 := hid (Bx.next Y_w8.out b9); clear b9 z0 z1 z2 x0 x1 x2 x3 B_w8 X_w8 Y_w8; obtain ⟨z0, z1, z2⟩ := Bx.q3 X_w9.out; obtain ⟨x0, x1, x2, x3⟩ := Bx.q4 Y_w9.out))
                go_roundg (ls.length - (j + 1))
                case measure => omega
                case rel => exact ⟨j + 1, by omega, rfl, by rw [Int.natCast_add]; rfl, B_w9.out, nx_all HAi.out LX.out KE.out⟩
              · have KE := hid (show lkB (i : Int) x l = true from by rw [KE.out]; rfl)
                have B_w7 := hid B7.out
                have X_w7 := hid X7.out
                have Y_w7 := hid Y7.out
                clear B7 X7 Y7
                go_wp2_with (first | (go_at_call 27; (with_reducible refine Calls.mono KH7.out ?_); rintro e w8 ⟨rfl, b9⟩; have B_w8 := hid (nxB B_w7.out b9); have X_w8 := hid (Bx.next X_w7.out b9); have Y_w8 := hid (Bx.next Y_w7.out b9); clear b9 z0 z1 z2 x0 x1 x2 x3 B_w7 X_w7 Y_w7; obtain ⟨z0, z1, z2⟩ := Bx.q3 X_w8.out; obtain ⟨x0, x1, x2, x3⟩ := Bx.q4 Y_w8.out) | (go_at_call 27; (with_reducible refine Calls.mono (KG.out _) ?_); rintro e w9 ⟨rfl, b9⟩; have B_w9 := hid (nxB B_w8.out b9); have X_w9 := hid (Bx.next X_w8.out b9); have Y_w9 := hid (Bx.next Y_w8.out b9); clear b9 z0 z1 z2 x0 x1 x2 x3 B_w8 X_w8 Y_w8; obtain ⟨z0, z1, z2⟩ := Bx.q3 X_w9.out; obtain ⟨x0, x1, x2, x3⟩ := Bx.q4 Y_w9.out))
                go_roundg (ls.length - (j + 1))
                case measure => omega
                case rel => exact ⟨j + 1, by omega, rfl, by rw [Int.natCast_add]; rfl, B_w9.out, nx_all HAi.out LX.out KE.out⟩
              · have KE := hid (show lkB (i : Int) x l = false from by rw [KE.out]; rfl)
                have B_w7 := hid B7.out
                have X_w7 := hid X7.out
                have Y_w7 := hid Y7.out
                clear B7 X7 Y7
                go_wp2_with (first | (go_at_call 27; (with_reducible refine Calls.mono KH7.out ?_); rintro e w8 ⟨rfl, b9⟩; have B_w8 := hid (nxB B_w7.out b9); have X_w8 := hid (Bx.next X_w7.out b9); have Y_w8 := hid (Bx.next Y_w7.out b9); clear b9 z0 z1 z2 x0 x1 x2 x3 B_w7 X_w7 Y_w7; obtain ⟨z0, z1, z2⟩ := Bx.q3 X_w8.out; obtain ⟨x0, x1, x2, x3⟩ := Bx.q4 Y_w8.out) | (go_at_call 27; (with_reducible refine Calls.mono (KG.out _) ?_); rintro e w9 ⟨rfl, b9⟩; have B_w9 := hid (nxB B_w8.out b9); have X_w9 := hid (Bx.next X_w8.out b9); have Y_w9 := hid (Bx.next Y_w8.out b9); clear b9 z0 z1 z2 x0 x1 x2 x3 B_w8 X_w8 Y_w8; obtain ⟨z0, z1, z2⟩ := Bx.q3 X_w9.out; obtain ⟨x0, x1, x2, x3⟩ := Bx.q4 Y_w9.out))
                have HF := hid (show R = some i from by rw [← RH.out]; exact frst_at HA.out HX.out (by rw [HZ.out]; exact all_no LX.out KE.out))
                go_returns
                exact ⟨_, by rw [HF.out]; rfl, W2.out _ (nxB B6.out B_w9.out)⟩
              · have KE := hid (show lkB (i : Int) x l = false from by rw [KE.out]; rfl)
                have B_w7 := hid B7.out
                have X_w7 := hid X7.out
                have Y_w7 := hid Y7.out
                clear B7 X7 Y7
                go_wp2_with (first | (go_at_call 27; (with_reducible refine Calls.mono KH7.out ?_); rintro e w8 ⟨rfl, b9⟩; have B_w8 := hid (nxB B_w7.out b9); have X_w8 := hid (Bx.next X_w7.out b9); have Y_w8 := hid (Bx.next Y_w7.out b9); clear b9 z0 z1 z2 x0 x1 x2 x3 B_w7 X_w7 Y_w7; obtain ⟨z0, z1, z2⟩ := Bx.q3 X_w8.out; obtain ⟨x0, x1, x2, x3⟩ := Bx.q4 Y_w8.out) | (go_at_call 27; (with_reducible refine Calls.mono (KG.out _) ?_); rintro e w9 ⟨rfl, b9⟩; have B_w9 := hid (nxB B_w8.out b9); have X_w9 := hid (Bx.next X_w8.out b9); have Y_w9 := hid (Bx.next Y_w8.out b9); clear b9 z0 z1 z2 x0 x1 x2 x3 B_w8 X_w8 Y_w8; obtain ⟨z0, z1, z2⟩ := Bx.q3 X_w9.out; obtain ⟨x0, x1, x2, x3⟩ := Bx.q4 Y_w9.out))
                have HF := hid (show R = some i from by rw [← RH.out]; exact frst_at HA.out HX.out (by rw [HZ.out]; exact all_no LX.out KE.out))
                go_returns
                exact ⟨_, by rw [HF.out]; rfl, W2.out _ (nxB B6.out B_w9.out)⟩
              · have KE := hid (show lkB (i : Int) x l = false from by rw [KE.out]; rfl)
                have B_w7 := hid B7.out
                have X_w7 := hid X7.out
                have Y_w7 := hid Y7.out
                clear B7 X7 Y7
                go_wp2_with (first | (go_at_call 27; (with_reducible refine Calls.mono KH7.out ?_); rintro e w8 ⟨rfl, b9⟩; have B_w8 := hid (nxB B_w7.out b9); have X_w8 := hid (Bx.next X_w7.out b9); have Y_w8 := hid (Bx.next Y_w7.out b9); clear b9 z0 z1 z2 x0 x1 x2 x3 B_w7 X_w7 Y_w7; obtain ⟨z0, z1, z2⟩ := Bx.q3 X_w8.out; obtain ⟨x0, x1, x2, x3⟩ := Bx.q4 Y_w8.out) | (go_at_call 27; (with_reducible refine Calls.mono (KG.out _) ?_); rintro e w9 ⟨rfl, b9⟩; have B_w9 := hid (nxB B_w8.out b9); have X_w9 := hid (Bx.next X_w8.out b9); have Y_w9 := hid (Bx.next Y_w8.out b9); clear b9 z0 z1 z2 x0 x1 x2 x3 B_w8 X_w8 Y_w8; obtain ⟨z0, z1, z2⟩ := Bx.q3 X_w9.out; obtain ⟨x0, x1, x2, x3⟩ := Bx.q4 Y_w9.out))
                have HF := hid (show R = some i from by rw [← RH.out]; exact frst_at HA.out HX.out (by rw [HZ.out]; exact all_no LX.out KE.out))
                go_returns
                exact ⟨_, by rw [HF.out]; rfl, W2.out _ (nxB B6.out B_w9.out)⟩
              · have KE := hid (show lkB (i : Int) x l = false from by rw [KE.out]; rfl)
                have B_w7 := hid B7.out
                have X_w7 := hid X7.out
                have Y_w7 := hid Y7.out
                clear B7 X7 Y7
                go_wp2_with (first | (go_at_call 27; (with_reducible refine Calls.mono KH7.out ?_); rintro e w8 ⟨rfl, b9⟩; have B_w8 := hid (nxB B_w7.out b9); have X_w8 := hid (Bx.next X_w7.out b9); have Y_w8 := hid (Bx.next Y_w7.out b9); clear b9 z0 z1 z2 x0 x1 x2 x3 B_w7 X_w7 Y_w7; obtain ⟨z0, z1, z2⟩ := Bx.q3 X_w8.out; obtain ⟨x0, x1, x2, x3⟩ := Bx.q4 Y_w8.out) | (go_at_call 27; (with_reducible refine Calls.mono (KG.out _) ?_); rintro e w9 ⟨rfl, b9⟩; have B_w9 := hid (nxB B_w8.out b9); have X_w9 := hid (Bx.next X_w8.out b9); have Y_w9 := hid (Bx.next Y_w8.out b9); clear b9 z0 z1 z2 x0 x1 x2 x3 B_w8 X_w8 Y_w8; obtain ⟨z0, z1, z2⟩ := Bx.q3 X_w9.out; obtain ⟨x0, x1, x2, x3⟩ := Bx.q4 Y_w9.out))
                have HF := hid (show R = some i from by rw [← RH.out]; exact frst_at HA.out HX.out (by rw [HZ.out]; exact all_no LX.out KE.out))
                go_returns
                exact ⟨_, by rw [HF.out]; rfl, W2.out _ (nxB B6.out B_w9.out)⟩
              · have KE := hid (show lkB (i : Int) x l = true from by rw [KE.out]; rfl)
                have B_w7 := hid B7.out
                have X_w7 := hid X7.out
                have Y_w7 := hid Y7.out
                clear B7 X7 Y7
                go_wp2_with (first | (go_at_call 27; (with_reducible refine Calls.mono KH7.out ?_); rintro e w8 ⟨rfl, b9⟩; have B_w8 := hid (nxB B_w7.out b9); have X_w8 := hid (Bx.next X_w7.out b9); have Y_w8 := hid (Bx.next Y_w7.out b9); clear b9 z0 z1 z2 x0 x1 x2 x3 B_w7 X_w7 Y_w7; obtain ⟨z0, z1, z2⟩ := Bx.q3 X_w8.out; obtain ⟨x0, x1, x2, x3⟩ := Bx.q4 Y_w8.out) | (go_at_call 27; (with_reducible refine Calls.mono (KG.out _) ?_); rintro e w9 ⟨rfl, b9⟩; have B_w9 := hid (nxB B_w8.out b9); have X_w9 := hid (Bx.next X_w8.out b9); have Y_w9 := hid (Bx.next Y_w8.out b9); clear b9 z0 z1 z2 x0 x1 x2 x3 B_w8 X_w8 Y_w8; obtain ⟨z0, z1, z2⟩ := Bx.q3 X_w9.out; obtain ⟨x0, x1, x2, x3⟩ := Bx.q4 Y_w9.out) | (go_at_call 28; (with_reducible refine Calls.mono (KZ.out _ (nxB B6.out B_w9.out)) ?_); rintro e wa ⟨rfl, b9⟩; have B_wa := hid (nxB B_w9.out b9); have X_wa := hid (Bx.next X_w9.out b9); have Y_wa := hid (Bx.next Y_w9.out b9); clear b9 z0 z1 z2 x0 x1 x2 x3 B_w9 X_w9 Y_w9; obtain ⟨z0, z1, z2⟩ := Bx.q3 X_wa.out; obtain ⟨x0, x1, x2, x3⟩ := Bx.q4 Y_wa.out))
                go_roundg (ls.length - (j + 1))
                case measure => omega
                case rel => exact ⟨j + 1, by omega, rfl, by rw [Int.natCast_add]; rfl, B_wa.out, nx_all HAi.out LX.out KE.out⟩
              · have KE := hid (show lkB (i : Int) x l = false from by rw [KE.out]; rfl)
                have B_w7 := hid B7.out
                have X_w7 := hid X7.out
                have Y_w7 := hid Y7.out
                clear B7 X7 Y7
                go_wp2_with (first | (go_at_call 27; (with_reducible refine Calls.mono KH7.out ?_); rintro e w8 ⟨rfl, b9⟩; have B_w8 := hid (nxB B_w7.out b9); have X_w8 := hid (Bx.next X_w7.out b9); have Y_w8 := hid (Bx.next Y_w7.out b9); clear b9 z0 z1 z2 x0 x1 x2 x3 B_w7 X_w7 Y_w7; obtain ⟨z0, z1, z2⟩ := Bx.q3 X_w8.out; obtain ⟨x0, x1, x2, x3⟩ := Bx.q4 Y_w8.out) | (go_at_call 27; (with_reducible refine Calls.mono (KG.out _) ?_); rintro e w9 ⟨rfl, b9⟩; have B_w9 := hid (nxB B_w8.out b9); have X_w9 := hid (Bx.next X_w8.out b9); have Y_w9 := hid (Bx.next Y_w8.out b9); clear b9 z0 z1 z2 x0 x1 x2 x3 B_w8 X_w8 Y_w8; obtain ⟨z0, z1, z2⟩ := Bx.q3 X_w9.out; obtain ⟨x0, x1, x2, x3⟩ := Bx.q4 Y_w9.out) | (go_at_call 28; (with_reducible refine Calls.mono (KZ.out _ (nxB B6.out B_w9.out)) ?_); rintro e wa ⟨rfl, b9⟩; have B_wa := hid (nxB B_w9.out b9); have X_wa := hid (Bx.next X_w9.out b9); have Y_wa := hid (Bx.next Y_w9.out b9); clear b9 z0 z1 z2 x0 x1 x2 x3 B_w9 X_w9 Y_w9; obtain ⟨z0, z1, z2⟩ := Bx.q3 X_wa.out; obtain ⟨x0, x1, x2, x3⟩ := Bx.q4 Y_wa.out))
                have HF := hid (show R = some i from by rw [← RH.out]; exact frst_at HA.out HX.out (by rw [HZ.out]; exact all_no LX.out KE.out))
                go_returns
                exact ⟨_, by rw [HF.out]; rfl, W2.out _ (nxB B6.out B_wa.out)⟩
            · have qj' : ¬ (j : Int) < (ls.length : Int) := by omega
              have HT := hid (show (ahB s.m6 (i : Int) x && prB p.co (i : Int) x && ls.all (lkB (i : Int) x)) = true from by rw [HZ.out]; exact all_at fun k l hk h => HAi.out k l (by omega) h)
              go_wp2_with fail
              go_roundg (s.m6 - (i + 1))
              case measure => omega
              case rel => exact ⟨i + 1, by omega, rfl, by rw [Int.natCast_add]; rfl, nxB B6.out HBi.out, next_all HA.out HX.out HT.out⟩
    · have q' : ¬ (i : Int) < (s.m6 : Int) := by omega
      have HF := hid (show R = none from by rw [← RH.out]; exact frst_no fun j x hj hx => HA.out j x (by have := L.out; omega) hx)
      go_wp2_with fail
      go_returns
      exact ⟨by rw [HF.out]; rfl, _, W2.out _ HBe.out⟩

end Go.Proofs.YtjkbiglnpoeddaaDoor.Vf
