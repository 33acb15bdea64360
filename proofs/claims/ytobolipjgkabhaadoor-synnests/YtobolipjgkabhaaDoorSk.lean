/- The walks over level and the parser's binary. -/
import Derived.Test.YtobolipjgkabhaaDoorSh
import Derived.Deep.LoopGhost
import Derived.BigQuiet
import Derived.Deep.RegionHeld3
namespace Go.Proofs.YtobolipjgkabhaaDoor
open Go.RowKit
set_option linter.unusedVariables false
set_option linter.unusedSimpArgs false

set_option maxHeartbeats 4000000 in
theorem level_any (t : ByteArray) (w : World) : Calls Tryd.prog 79 #[.string t] w fun e w' => e = .returned (.int .i64 (lvF t)) ∧ w = w' := by
  have E : lvF t = (if (t.toList == [111, 114]) = true then 0 else if (t.toList == [97, 110, 100]) = true then 1 else if (t.toList == [60] || t.toList == [60, 61] || t.toList == [62] || t.toList == [62, 61] || t.toList == [61, 61] || t.toList == [33, 61]) = true then 2 else if (t.toList == [43] || t.toList == [45]) = true then 3 else if (t.toList == [42] || t.toList == [47]) = true then 4 else -1) := by
    simp only [eqL]
    rfl
  have EH := hid E
  clear E
  generalize lvF t = lv at *
  go_enter Tryd.func79, Tryd.ntmps79
  go_wp2_with fail
  all_goals go_ret
  all_goals refine ⟨congrArg (fun b => Ending.returned (Value.int .i64 b)) ?_, rfl⟩
  all_goals (rw [EH.out]; simp_all)
/-- What binary holds: its node's box q, its answer's box r. -/
structure Bn (w wr : World) (p b c : Nat) (ws : List Wo) (q k : Nat) (o : Option Nat) (n : Tr) (sa : Option Addr) (sm sc : Nat) : Prop where
  ps : Ps wr p b c ws k o
  gr : Gr w wr p
  bq : B6 wr q (.string n.op) (.string n.name) (.int .i64 (n.kind : Nat)) (.int .i64 n.n) (.int .i64 (n.pl : Nat)) (.slice sa sm sc)
  br : B6 wr w.heap.size (.string ⟨#[]⟩) (.string ⟨#[]⟩) (.int .i64 0) (.int .i64 0) (.int .i64 0) (.slice none 0 0)
  nd : Nd wr (fun g => w.heap.size + 1 ≤ g ∧ g ≠ q) (.slice sa sm sc) n.kids
  wp : p < w.heap.size
  wb : b < w.heap.size
  wq : w.heap.size < q
theorem Bn.next {w wr w5 : World} {p b c : Nat} {ws : List Wo} {q k : Nat} {o : Option Nat} {n : Tr} {sa : Option Addr} {sm sc : Nat} (h : Bn w wr p b c ws q k o n sa sm sc) (g : Below wr.heap.size wr w5) : Bn w w5 p b c ws q k o n sa sm sc :=
  ⟨h.ps.next g, h.gr.below g, h.bq.next g, h.br.next g, h.nd.keep fun x s l => ⟨s, g.block x l⟩, h.wp, h.wb, h.wq⟩
def binR (B : List Wo → Option Nat → Rs) (a : Nat) (r : Rs) : Rs := match r with | ⟨none, l', o'⟩ => ⟨none, l', o'⟩ | ⟨some n, l', o'⟩ => loopF B a l'.length n l' o'
def binG (B : List Wo → Option Nat → Rs) (a : Nat) (l : List Wo) (o : Option Nat) : Rs := binR B a (B l o)
def msr (ok : Bool) (n : Nat) : Nat := if ok then n + 2 else 1
theorem loop_no {B : List Wo → Option Nat → Rs} {a f : Nat} {n : Tr} {l : List Wo} {o : Option Nat} (h : lvF (tw l) ≠ (a : Nat)) : loopF B a f n l o = ⟨some n, l, o⟩ := by
  cases f with
  | zero => rfl
  | succ f => simp only [loopF]; rw [if_neg h]
def loopR (B : List Wo → Option Nat → Rs) (a f : Nat) (n : Tr) (t : ByteArray) (x : Nat) (r : Rs) : Rs := match r with | ⟨none, l', o'⟩ => ⟨none, l', o'⟩ | ⟨some u, l', o'⟩ => if a = 2 then ⟨some (.nd t ⟨#[]⟩ 0 0 x [n, u]), l', o'⟩ else loopF B a f (.nd t ⟨#[]⟩ 0 0 x [n, u]) l' o'
theorem loop_yes {B : List Wo → Option Nat → Rs} {a f : Nat} {n : Tr} {l : List Wo} {o : Option Nat} (h : lvF (tw l) = (a : Nat)) : loopF B a (f + 1) n l o = loopR B a f n (tw l) (aw l) (B l.tail o) := by
  unfold loopR
  simp only [loopF]
  rw [if_pos h]
  generalize B l.tail o = r
  obtain ⟨t, l', o'⟩ := r
  cases t <;> rfl
set_option maxRecDepth 100000 in
set_option maxHeartbeats 3000000 in
theorem pbin_step {w : World} {p b c : Nat} {ws : List Wo} {k : Nat} {o : Option Nat} (a deep : Nat) (B : List Wo → Option Nat → Rs) (ha : a ≤ 4) (hd0 : deep ≤ 10000) (hT : KT w) (hg : 1 ≠ p)
    (hB : ∀ (w : World) (k' : Nat) (o : Option Nat), k ≤ k' → Ps w p b c ws k' o → KT w → Calls Tryd.prog 67 #[.pointer (some ⟨p, 0, none⟩), .int .i64 ((a : Int) + 1), .int .i64 (deep : Nat)] w fun e w' => Rp w w' p b c ws k' e (B (ws.drop k') o)) (h : Ps w p b c ws k o) :
    Calls Tryd.prog 67 #[.pointer (some ⟨p, 0, none⟩), .int .i64 (a : Nat), .int .i64 (deep : Nat)] w fun e w' => Rp w w' p b c ws k e (binG B a (ws.drop k) o) := by
  have rp := h.pl
  have rb := h.bl
  have HB := hid (B6.new w 26 (.string ⟨#[]⟩) (.string ⟨#[]⟩) (.int .i64 0) (.int .i64 0) (.int .i64 0) (.slice none 0 0))
  have HS0 : Hid (Below w.heap.size w (w.alloc (.cells #[.string ⟨#[]⟩, .string ⟨#[]⟩, .int .i64 0, .int .i64 0, .int .i64 0, .slice none 0 0] 26))) := (Below.refl _ _).alloc (Nat.le_refl _) _
  have HP := hid (h.next HS0.out)
  have HG := hid ((Gr.refl w p).below HS0.out)
  have WS := hid (show w.heap.size < (w.alloc (.cells #[.string ⟨#[]⟩, .string ⟨#[]⟩, .int .i64 0, .int .i64 0, .int .i64 0, .slice none 0 0] 26)).heap.size from by simp)
  have HT := hid (hT.next HS0.out)
  have hd : (deep : Int) ≤ 10000 := by omega
  have a5 : (a : Int) ≠ 5 := by omega
  have a4 : (a : Int) ≤ 4 := by omega
  have BH := hid hB
  have TW := hid hT
  have l2 : ws.length ≤ 9000 := h.len
  have PN := h.ne
  obtain ⟨RB, hRB⟩ : ∃ RB, B (ws.drop k) o = RB := ⟨_, rfl⟩
  obtain ⟨R, hR⟩ : ∃ R, binG B a (ws.drop k) o = R := ⟨_, rfl⟩
  have RX := hid (show R = binR B a RB from by rw [← hR]; unfold binG; rw [hRB])
  have HC := hid (show Calls _ _ _ _ (fun e w' => Rp _ w' p b c ws k e RB) from by have := hB _ k o (Nat.le_refl _) HP.out HT.out; rw [hRB] at this; exact this)
  rw [hR]
  clear h hT hB hR hRB
  go_enter Tryd.func67, Tryd.ntmps67
  go_upto_region 3 with fail
  generalize World.alloc w _ = w1 at *
  obtain ⟨rt, rl, ro⟩ := RB
  go_upto_region 4 with (go_at_call 67; with_reducible refine Calls.mono (HC.out) ?_; rintro e w5 h5; obtain ⟨g5, k5, t, sa, sm, sc, ok, hk, hk2, hl, p5, rfl, hok, nv, ht⟩ := h5.parts; have HK2 := hid hk2; clear hk2; have HR5 := hid (HB.out.gr g5 (by omega)); have HP5 := hid p5; have HG5 := hid (HG.out.trans g5); have HN5 := hid nv; have HT5 := hid ht; have HL5 := hid hl; have HO5 := hid hok; have WS5 := hid (Nat.lt_of_lt_of_le WS.out g5.size); clear h5 g5 p5 nv ht hl hok)
  have HL5 := HL5.out
  have HL5 : rl = ws.drop k5 := HL5
  subst HL5
  have HS6 := hid (show Below w5.heap.size w5 (w5.alloc (.cells #[.string t.op, .string t.name, .int .i64 (t.kind : Nat), .int .i64 t.n, .int .i64 (t.pl : Nat), .slice sa sm sc] 26)) from (Below.refl _ _).alloc (Nat.le_refl _) _)
  have BI := hid (show Bn w (w5.alloc (.cells #[.string t.op, .string t.name, .int .i64 (t.kind : Nat), .int .i64 t.n, .int .i64 (t.pl : Nat), .slice sa sm sc] 26)) p b c ws w5.heap.size k5 ro t sa sm sc from ⟨HP5.out.next HS6.out, HG5.out.below HS6.out, B6.new w5 26 (.string t.op) (.string t.name) (.int .i64 (t.kind : Nat)) (.int .i64 t.n) (.int .i64 (t.pl : Nat)) (.slice sa sm sc), HR5.out.next HS6.out, HN5.out.keep fun g s l => ⟨⟨by have := WS.out; omega, by omega⟩, HS6.out.block g l⟩, rp, rb, WS5.out⟩)
  clear HS6 HP5 HG5 HR5 HN5 HC HB HG HP WS HT WS5
  generalize World.alloc w5 _ = w6 at *
  generalize w5.heap.size = q at *
  have wq : w.heap.size < q := BI.out.wq
  have RI := hid (show (ok = true ∧ k < k5 ∧ loopF B a (ws.drop k5).length t (ws.drop k5) ro = R) ∨ (ok = false ∧ R = ⟨none, ws.drop k5, ro⟩) from by
    cases rt with
    | none => exact Or.inr ⟨HO5.out.symm, RX.out⟩
    | some t0 =>
      have e1 : ok = true := HO5.out.symm
      have e2 := HT5.out t0 rfl
      subst e2
      exact Or.inl ⟨e1, HK2.out e1, RX.out.symm⟩)
  clear HO5 HT5 HK2 RX
  go_loopg [9] (msr ok (ws.length - k5)) (fun g ov wr => ∃ (ok : Bool) (f k' : Nat) (o' : Option Nat) (n : Tr) (sa : Option Addr) (sm sc : Nat), g = msr ok (ws.length - k') ∧ ov = .bool ok ∧ k ≤ k' ∧ Hid (Bn w wr p b c ws q k' o' n sa sm sc) ∧ Hid ((ok = true ∧ k < k' ∧ loopF B a f n (ws.drop k') o' = R ∧ ws.length - k' ≤ f) ∨ (ok = false ∧ R = ⟨none, ws.drop k', o'⟩)))
  case atStart =>
    refine ⟨ok, (ws.drop k5).length, k5, ro, t, sa, sm, sc, rfl, rfl, hk, BI, ?_⟩
    rcases RI.out with ⟨z1, z2, z3⟩ | z
    · exact Or.inl ⟨z1, z2, z3, by simp⟩
    · exact Or.inr z
  case round =>
    clear BI RI
    obtain ⟨ok, f, k', o', n, sa, sm, sc, rfl, rfl, hkk, BX, RH⟩ := hrel
    cases ok with
    | false =>
      have LR := hid (show R = ⟨none, ws.drop k', o'⟩ from by
        rcases RH.out with ⟨z, _⟩ | ⟨_, z⟩
        · cases z
        · exact z)
      have KLE := hkk
      go_upto_region 4 with fail
      go_quiet (fail)
      replace BX := hid (BX.out.next (drewN_below wr nq))
      generalize wr.drewN nq = w2 at *
      go_upto_region 11 with fail
      obtain ⟨n0, n1, n2, n3, n4, n5, _⟩ := BX.out.bq
      obtain ⟨r0, r1, r2, r3, r4, r5, rz⟩ := BX.out.br
      have BF := hid (BX.out.br.sets (.string n.op) (.string n.name) (.int .i64 (n.kind : Nat)) (.int .i64 n.n) (.int .i64 (n.pl : Nat)) (.slice sa sm sc))
      have PF := hid (BX.out.ps.put6 (q := w.heap.size) (by omega) (by omega) (.string n.op) (.string n.name) (.int .i64 (n.kind : Nat)) (.int .i64 n.n) (.int .i64 (n.pl : Nat)) (.slice sa sm sc))
      have GF := hid (BX.out.gr.put6 (q := w.heap.size) (by omega) (.string n.op) (.string n.name) (.int .i64 (n.kind : Nat)) (.int .i64 n.n) (.int .i64 (n.pl : Nat)) (.slice sa sm sc))
      have NF := hid (BX.out.nd.put6 (q := w.heap.size) (by omega) (.string n.op) (.string n.name) (.int .i64 (n.kind : Nat)) (.int .i64 n.n) (.int .i64 (n.pl : Nat)) (.slice sa sm sc))
      go_wp2_with fail
      generalize World.setCell _ ⟨w.heap.size, 5, none⟩ _ = w9 at *
      obtain ⟨f0, f1, f2, f3, f4, f5, _⟩ := BF.out
      exact bodyPost_ret (v := .tuple #[.agg #[.string n.op, .string n.name, .int .i64 (n.kind : Nat), .int .i64 n.n, .int .i64 (n.pl : Nat), .slice sa sm sc], .bool false]) (by simp [results, Tryd.results67, go_sem, f0, f1, f2, f3, f4, f5]) rfl (Rp.no KLE LR.out GF.out PF.out ⟨_, rfl, NF.out.keep fun g s l => ⟨by omega, rfl⟩⟩)

    | true =>
      obtain ⟨KLT, LF, FU⟩ : k < k' ∧ loopF B a f n (ws.drop k') o' = R ∧ ws.length - k' ≤ f := by
        rcases RH.out with ⟨_, z⟩ | ⟨z, _⟩
        · exact z
        · cases z
      have LFH := hid LF
      clear LF RH
      obtain ⟨x, cu⟩ := BX.out.ps.cur
      have XA := hid cu.at_
      have TX := hid (show tw (ws.drop k') = x.t from by rw [cu.dr]; rfl)
      have AX := hid (show aw (ws.drop k') = x.a from by rw [cu.dr]; rfl)
      have l1 : (k' : Int) < (ws.length : Int) := by have := BX.out.ps.lt; omega
      have c0 := BX.out.ps.c0
      have c1 := BX.out.ps.c1
      have d1 := cu.d1
      clear cu
      obtain ⟨xk, xt, xn, xa⟩ := x
      simp only at XA TX AX d1
      obtain ⟨lv, hlv⟩ : ∃ lv, lvF xt = lv := ⟨_, rfl⟩
      have LV := hid (fun w => level_any xt w)
      rw [hlv] at LV
      by_cases y : lv = (a : Int)
      · subst y
        have HM := hid (show k' + 1 < ws.length from BX.out.ps.more XA.out (Or.inr fun e => by
          have e : xt = ⟨#[]⟩ := e
          rw [e] at hlv
          have : lvF ⟨#[]⟩ = -1 := rfl
          omega))
        obtain ⟨f, rfl⟩ : ∃ f', f = f' + 1 := ⟨f - 1, by have := BX.out.ps.lt; omega⟩
        obtain ⟨RK, hRK⟩ : ∃ RK, B (ws.drop (k' + 1)) o' = RK := ⟨_, rfl⟩
        have LR0 := hid (show R = loopR B a f n xt xa RK from by rw [← LFH.out, loop_yes (by rw [TX.out]; exact hlv), TX.out, AX.out, List.tail_drop, hRK])
        have RKH := hid hRK
        clear hRK hlv LFH
        go_upto_region 4 with fail
        go_quiet (first | (go_at_call 79; with_reducible exact qsame LV.out))
        replace BX := hid (BX.out.next (drewN_below wr nq))
        clear c0 c1 d1 LV TX AX
        generalize wr.drewN nq = wk at *
        go_upto_region 5 with fail
        have HP := hid BX.out.ps
        have HG := hid BX.out.gr
        have c0 := HP.out.c0
        have c1 := HP.out.c1
        have d0 := HP.out.w0 _ _ XA.out
        have d1 := HP.out.w1 _ _ XA.out
        have d2 := HP.out.w2 _ _ XA.out
        have d3 := HP.out.w3 _ _ XA.out
        refine wp_region_held_drew (S := (fun W => W.cell? ⟨p, 0, none⟩ = some (.slice (some ⟨b, 0, none⟩) ws.length c) ∧ W.cell? ⟨p, 1, none⟩ = some (.int .i64 (k' : Nat)) ∧ W.cell? ⟨b, k' * 4, none⟩ = some (.int .i64 (xk : Nat)) ∧ W.cell? ⟨b, k' * 4 + 1, none⟩ = some (.string xt) ∧ W.cell? ⟨b, k' * 4 + 2, none⟩ = some (.int .i64 (xn : Nat)) ∧ W.cell? ⟨b, k' * 4 + 3, none⟩ = some (.int .i64 (xa : Nat)))) (by kernel_rfl) ⟨c0, c1, d0, d1, d2, d3⟩ (fun hHeld => ?_)
        have HP0 := hid (show Ps wk.drew p b c ws k' o' from HP.out.next (Below.refl _ _).drew)
        have HG0 := hid (show Gr w wk.drew p from HG.out.drew)
        clear HP HG
        have BXz := hid (BX.out.next (Below.refl wk.heap.size wk).drew)
        clear BX
        generalize wk.drew = wz at *
        refine take2 rfl (i := 0) (v := .pointer (some ⟨p, 0, none⟩)) (d := 44) rfl rfl (by kernel_rfl) (by kernel_rfl) (by kernel_rfl) (fun _ _ _ h => h) (Or.inl ⟨by rfl, ?_⟩) hHeld ?_
        · (intro W hW; (try dsimp only at hW); go_simp)
        try simp only [Act.put, List.setIfInBounds_toArray, List.set_cons_zero, List.set_cons_succ]
        refine take2 rfl (i := 1) (v := .pointer (some ⟨p, 0, none⟩)) (d := 45) rfl rfl (by kernel_rfl) (by kernel_rfl) (by kernel_rfl) (fun _ _ _ h => h) (Or.inl ⟨by rfl, ?_⟩) hHeld ?_
        · (intro W hW; (try dsimp only at hW); go_simp)
        try simp only [Act.put, List.setIfInBounds_toArray, List.set_cons_zero, List.set_cons_succ]
        refine take2 rfl (i := 2) (v := .pointer (some ⟨p, 0, none⟩)) (d := 46) rfl rfl (by kernel_rfl) (by kernel_rfl) (by kernel_rfl) (fun _ _ _ h => h) (Or.inl ⟨by rfl, ?_⟩) hHeld ?_
        · (intro W hW; (try dsimp only at hW); go_simp)
        try simp only [Act.put, List.setIfInBounds_toArray, List.set_cons_zero, List.set_cons_succ]
        refine take2 rfl (i := 3) (v := .slice (some ⟨b, 0, none⟩) ws.length c) (d := 47) rfl rfl (by kernel_rfl) (by kernel_rfl) (by kernel_rfl) (fun _ _ _ h => h) (Or.inl ⟨by rfl, ?_⟩) hHeld ?_
        · (intro W hW; (try dsimp only at hW); go_simp)
        try simp only [Act.put, List.setIfInBounds_toArray, List.set_cons_zero, List.set_cons_succ]
        refine take2 rfl (i := 4) (v := .pointer (some ⟨p, 0, none⟩)) (d := 48) rfl rfl (by kernel_rfl) (by kernel_rfl) (by kernel_rfl) (fun _ _ _ h => h) (Or.inl ⟨by rfl, ?_⟩) hHeld ?_
        · (intro W hW; (try dsimp only at hW); go_simp)
        try simp only [Act.put, List.setIfInBounds_toArray, List.set_cons_zero, List.set_cons_succ]
        refine take2 rfl (i := 5) (v := .pointer (some ⟨p, 0, none⟩)) (d := 49) rfl rfl (by kernel_rfl) (by kernel_rfl) (by kernel_rfl) (fun _ _ _ h => h) (Or.inl ⟨by rfl, ?_⟩) hHeld ?_
        · (intro W hW; (try dsimp only at hW); go_simp)
        try simp only [Act.put, List.setIfInBounds_toArray, List.set_cons_zero, List.set_cons_succ]
        refine take2 rfl (i := 6) (v := .pointer (some ⟨p, 1, none⟩)) (d := 50) rfl rfl (by kernel_rfl) (by kernel_rfl) (by kernel_rfl) (fun _ _ _ h => h) (Or.inl ⟨by rfl, ?_⟩) hHeld ?_
        · (intro W hW; (try dsimp only at hW); go_simp)
        try simp only [Act.put, List.setIfInBounds_toArray, List.set_cons_zero, List.set_cons_succ]
        refine take2 rfl (i := 7) (v := .int .i64 (k' : Nat)) (d := 51) rfl rfl (by kernel_rfl) (by kernel_rfl) (by kernel_rfl) (fun _ _ _ h => h) (Or.inl ⟨by rfl, ?_⟩) hHeld ?_
        · (intro W hW; (try dsimp only at hW); go_simp)
        try simp only [Act.put, List.setIfInBounds_toArray, List.set_cons_zero, List.set_cons_succ]
        refine take2 rfl (i := 8) (v := .pointer (some ⟨b, k' * 4, none⟩)) (d := 52) rfl rfl (by kernel_rfl) (by kernel_rfl) (by kernel_rfl) (fun _ _ _ h => h) (Or.inl ⟨by rfl, ?_⟩) hHeld ?_
        · (intro W hW; (try dsimp only at hW); go_simp)
        try simp only [Act.put, List.setIfInBounds_toArray, List.set_cons_zero, List.set_cons_succ]
        refine take2 rfl (i := 9) (v := .agg #[.int .i64 (xk : Nat), .string xt, .int .i64 (xn : Nat), .int .i64 (xa : Nat)]) (d := 53) rfl rfl (by kernel_rfl) (by kernel_rfl) (by kernel_rfl) (fun _ _ _ h => h) (Or.inl ⟨by rfl, ?_⟩) hHeld ?_
        · (intro W hW; (try dsimp only at hW); go_simp)
        try simp only [Act.put, List.setIfInBounds_toArray, List.set_cons_zero, List.set_cons_succ]
        refine wpAnyH_ready (rs := [10]) (by kernel_rfl) (by simp) ?_
        refine cons2 rfl rfl (fun K9 hK => ?_)
        go_simp
        have BL := hid ((Below.refl wz.heap.size wz).alloc (Nat.le_refl _) (.cells #[.int .i64 0, .string ⟨#[]⟩, .int .i64 0, .int .i64 0] 41))
        refine hK.out _ _ (by have H := HP0.out.next BL.out; obtain ⟨q0, q1, q2, q3, q4, q5⟩ := hHeld; exact ⟨H.c0, H.c1, H.w0 _ _ XA.out, H.w1 _ _ XA.out, H.w2 _ _ XA.out, H.w3 _ _ XA.out⟩) (fun hX => ?_)
        clear hK K9 hHeld
        have hHeld := hX
        clear hX
        try simp only [Act.put, List.setIfInBounds_toArray, List.set_cons_zero, List.set_cons_succ]
        refine wpAnyH_ready (rs := [11]) (by kernel_rfl) (by simp) ?_
        refine cons2 rfl rfl (fun K9 hK => ?_)
        go_simp
        have HX := hid (X4.new wz 41 (.int .i64 (xk : Nat)) (.string xt) (.int .i64 (xn : Nat)) (.int .i64 (xa : Nat)))
        have HP := hid (HP0.out.next HX.out.bl)
        have HG := hid (HG0.out.below HX.out.bl)
        have BX := hid (BXz.out.next HX.out.bl)
        clear BXz
        refine hK.out _ _ (⟨HP.out.c0, HP.out.c1, HP.out.w0 _ _ XA.out, HP.out.w1 _ _ XA.out, HP.out.w2 _ _ XA.out, HP.out.w3 _ _ XA.out⟩) (fun hX => ?_)
        clear hK K9 hHeld
        have hHeld := hX
        clear hX
        try simp only [Act.put, List.setIfInBounds_toArray, List.set_cons_zero, List.set_cons_succ]
        clear hHeld BL HG0
        refine wpAnyH_done (by kernel_rfl) ?_ _
        generalize World.alloc wz _ = w2 at *
        have x0 := HX.out.c0
        have x1 := HX.out.c1
        have x2 := HX.out.c2
        have x3 := HX.out.c3
        have hg0 : wz.heap.size < w2.heap.size := HX.out.lt
        have hgp : wz.heap.size ≠ p := by have := HP0.out.pl; omega
        generalize wz.heap.size = g at *

        clear c0 c1 d0 d1 d2 d3 x0 x2 HP0 HX
        have pl2 := HP.out.pl
        have bl2 := HP.out.bl
        have ql2 := BX.out.bq.lt
        have lk : (k' : Int) ≤ 9000 := by omega
        have p1 := HP.out.c1
        have pz := HP.out.fz 1
        have HP3 := hid (HP.out.step HM.out)
        have G3 := hid ((Gr.refl w2 p).set (i := 1) (.int .i64 ((k' : Int) + 1)))
        go_upto_region 7 with fail
        generalize World.setCell w2 _ _ = w3 at *
        clear p1 pz
        have s23 := G3.out.size
        have HS4 : Hid (Below w3.heap.size w3 (w3.alloc (.cells #[.string ⟨#[]⟩, .string ⟨#[]⟩, .int .i64 0, .int .i64 0, .int .i64 0, .slice none 0 0] 26))) := (Below.refl _ _).alloc (Nat.le_refl _) _
        have HP4 := hid (HP3.out.next HS4.out)
        have G4 := hid (G3.out.below HS4.out)
        have BE4 := hid (B6.new w3 26 (.string ⟨#[]⟩) (.string ⟨#[]⟩) (.int .i64 0) (.int .i64 0) (.int .i64 0) (.slice none 0 0))
        have E4 := hid (show w3.heap.size < (w3.alloc (.cells #[.string ⟨#[]⟩, .string ⟨#[]⟩, .int .i64 0, .int .i64 0, .int .i64 0, .slice none 0 0] 26)).heap.size from by simp)
        have KT4 := hid ((TW.out.gr BX.out.gr hg).gr G4.out hg)
        go_upto_region 8 with fail
        generalize World.alloc w3 _ = w4 at *
        generalize w3.heap.size = eg at *
        clear HS4 HP3 G3
        have HC := hid (show Calls _ _ _ _ (fun e w' => Rp _ w' p b c ws (k' + 1) e RK) from by have := BH.out _ (k' + 1) o' (by omega) HP4.out KT4.out; rw [RKH.out] at this; exact this)
        obtain ⟨rt, rl, ro⟩ := RK
        go_upto_region 9 with (go_at_call 67; with_reducible refine Calls.mono (HC.out) ?_; rintro e w5 h5; obtain ⟨g5, k5, t5, sa5, sm5, sc5, ok5, hk5, hk6, hl5, p5, rfl, hok, nv5, ht5⟩ := h5.parts; have HP5 := hid p5; have G5 := hid (G4.out.trans g5); have BE5 := hid (BE4.out.gr g5 (by omega)); have NV5 := hid nv5; have HL9 := hid hl5; have HO9 := hid hok; have HT9 := hid ht5; have GS5 := hid g5.size; clear g5 p5 nv5 hl5 hok ht5 h5 hk6; obtain ⟨z0, z1, z2, z3, z4, z5, zz⟩ := BE5.out)
        have HL9 := HL9.out
        have HL9 : rl = ws.drop k5 := HL9
        subst HL9
        have HP6 := hid (HP5.out.put6 (q := eg) (by omega) (by omega) (.string t5.op) (.string t5.name) (.int .i64 (t5.kind : Nat)) (.int .i64 t5.n) (.int .i64 (t5.pl : Nat)) (.slice sa5 sm5 sc5))
        have G6 := hid (G5.out.put6 (q := eg) (by omega) (.string t5.op) (.string t5.name) (.int .i64 (t5.kind : Nat)) (.int .i64 t5.n) (.int .i64 (t5.pl : Nat)) (.slice sa5 sm5 sc5))
        have BE6 := hid (BE5.out.sets (.string t5.op) (.string t5.name) (.int .i64 (t5.kind : Nat)) (.int .i64 t5.n) (.int .i64 (t5.pl : Nat)) (.slice sa5 sm5 sc5))
        have N6 := hid (NV5.out.put6 (q := eg) (by have := E4.out; omega) (.string t5.op) (.string t5.name) (.int .i64 (t5.kind : Nat)) (.int .i64 t5.n) (.int .i64 (t5.pl : Nat)) (.slice sa5 sm5 sc5))
        clear z0 z1 z2 z3 z4 z5 zz HP5 G5 BE5 NV5 GS5 HC BE4 HP4 G4 KT4
        generalize World.setCell _ ⟨eg, 5, none⟩ _ = w6 at *
        have y1 : w6.cell? ⟨g, 1, none⟩ = some (.string xt) := (World.cell?_of_block (a := ⟨g, 1, none⟩) (G6.out.block g hg0 (fun e => hgp (by injection e)))).trans x1
        have y3 : w6.cell? ⟨g, 3, none⟩ = some (.int .i64 (xa : Nat)) := (World.cell?_of_block (a := ⟨g, 3, none⟩) (G6.out.block g hg0 (fun e => hgp (by injection e)))).trans x3
        have BQ6 := hid (BX.out.bq.gr G6.out (by omega))
        have BR6 := hid (BX.out.br.gr G6.out (by omega))
        have s26 := G6.out.size
        have s4e := E4.out
        have ND6 := hid (BX.out.nd.keep (w' := w6) (S' := fun g => w.heap.size + 1 ≤ g ∧ g ≠ q) fun g s l => ⟨s, G6.out.block g l (fun e => by injection e with e; omega)⟩)
        have ql6 := BQ6.out.lt
        have SZ := hid (show ((((((w6.setCell ⟨q, 0, none⟩ (.string xt)).setCell ⟨q, 1, none⟩ (.string ⟨#[]⟩)).setCell ⟨q, 2, none⟩ (.int .i64 0)).setCell ⟨q, 3, none⟩ (.int .i64 0)).setCell ⟨q, 4, none⟩ (.int .i64 (xa : Nat))).setCell ⟨q, 5, none⟩ (.slice (some ⟨w6.heap.size, 0, none⟩) 2 2)).heap.size = w6.heap.size from size6 w6 q (.string xt) (.string ⟨#[]⟩) (.int .i64 0) (.int .i64 0) (.int .i64 (xa : Nat)) (.slice (some ⟨w6.heap.size, 0, none⟩) 2 2))
        have P7 := hid (HP6.out.put6 (q := q) (by omega) (by omega) (.string xt) (.string ⟨#[]⟩) (.int .i64 0) (.int .i64 0) (.int .i64 (xa : Nat)) (.slice (some ⟨w6.heap.size, 0, none⟩) 2 2))
        have GG7 := hid ((BX.out.gr.trans G6.out).put6 (q := q) (by omega) (.string xt) (.string ⟨#[]⟩) (.int .i64 0) (.int .i64 0) (.int .i64 (xa : Nat)) (.slice (some ⟨w6.heap.size, 0, none⟩) 2 2))
        have Q7 := hid (BQ6.out.sets (.string xt) (.string ⟨#[]⟩) (.int .i64 0) (.int .i64 0) (.int .i64 (xa : Nat)) (.slice (some ⟨w6.heap.size, 0, none⟩) 2 2))
        have R7 := hid (BR6.out.put6 (q := q) (by omega) (.string xt) (.string ⟨#[]⟩) (.int .i64 0) (.int .i64 0) (.int .i64 (xa : Nat)) (.slice (some ⟨w6.heap.size, 0, none⟩) 2 2))
        have L7 := hid (ND6.out.put6 (q := q) (fun e => e.2 rfl) (.string xt) (.string ⟨#[]⟩) (.int .i64 0) (.int .i64 0) (.int .i64 (xa : Nat)) (.slice (some ⟨w6.heap.size, 0, none⟩) 2 2))
        have M7 := hid (N6.out.put6 (q := q) (by omega) (.string xt) (.string ⟨#[]⟩) (.int .i64 0) (.int .i64 0) (.int .i64 (xa : Nat)) (.slice (some ⟨w6.heap.size, 0, none⟩) 2 2))
        obtain ⟨w7, hw7⟩ : ∃ w7, ((((((w6.setCell ⟨q, 0, none⟩ (.string xt)).setCell ⟨q, 1, none⟩ (.string ⟨#[]⟩)).setCell ⟨q, 2, none⟩ (.int .i64 0)).setCell ⟨q, 3, none⟩ (.int .i64 0)).setCell ⟨q, 4, none⟩ (.int .i64 (xa : Nat))).setCell ⟨q, 5, none⟩ (.slice (some ⟨w6.heap.size, 0, none⟩) 2 2)) = w7 := ⟨_, rfl⟩
        rw [hw7] at SZ P7 GG7 Q7 R7 L7 M7
        have HS7 := hid (show Below w7.heap.size w7 (w7.alloc (.cells #[.string n.op, .string n.name, .int .i64 (n.kind : Nat), .int .i64 n.n, .int .i64 (n.pl : Nat), .slice sa sm sc, .string t5.op, .string t5.name, .int .i64 (t5.kind : Nat), .int .i64 t5.n, .int .i64 (t5.pl : Nat), .slice sa5 sm5 sc5] 26)) from (Below.refl _ _).alloc (Nat.le_refl _) _)
        have C0 := hid (show NC (w7.alloc (.cells #[.string n.op, .string n.name, .int .i64 (n.kind : Nat), .int .i64 n.n, .int .i64 (n.pl : Nat), .slice sa sm sc, .string t5.op, .string t5.name, .int .i64 (t5.kind : Nat), .int .i64 t5.n, .int .i64 (t5.pl : Nat), .slice sa5 sm5 sc5] 26)) w6.heap.size 0 n (.slice sa sm sc) from by rw [← SZ.out]; exact ⟨by simp, by simp, by simp, by simp, by simp, by simp⟩)
        have C6 := hid (show NC (w7.alloc (.cells #[.string n.op, .string n.name, .int .i64 (n.kind : Nat), .int .i64 n.n, .int .i64 (n.pl : Nat), .slice sa sm sc, .string t5.op, .string t5.name, .int .i64 (t5.kind : Nat), .int .i64 t5.n, .int .i64 (t5.pl : Nat), .slice sa5 sm5 sc5] 26)) w6.heap.size 6 t5 (.slice sa5 sm5 sc5) from by rw [← SZ.out]; exact ⟨by simp, by simp, by simp, by simp, by simp, by simp⟩)
        have N7 := hid (Nd.two (c := 2) (S := fun g => w.heap.size + 1 ≤ g ∧ g ≠ q) ⟨by omega, by omega⟩ C0.out C6.out (L7.out.keep fun g s l => ⟨s, HS7.out.block g l⟩) (M7.out.keep fun g s l => ⟨⟨by omega, by omega⟩, HS7.out.block g l⟩))
        obtain ⟨n9, hn9⟩ : ∃ n9 : Tr, n9 = .nd xt ⟨#[]⟩ 0 0 xa [n, t5] := ⟨_, rfl⟩
        have BY := hid (show Bn w (w7.alloc (.cells #[.string n.op, .string n.name, .int .i64 (n.kind : Nat), .int .i64 n.n, .int .i64 (n.pl : Nat), .slice sa sm sc, .string t5.op, .string t5.name, .int .i64 (t5.kind : Nat), .int .i64 t5.n, .int .i64 (t5.pl : Nat), .slice sa5 sm5 sc5] 26)) p b c ws q k5 ro n9 (some ⟨w6.heap.size, 0, none⟩) 2 2 from by
          subst hn9
          exact ⟨P7.out.next HS7.out, GG7.out.below HS7.out, Q7.out.next HS7.out, R7.out.next HS7.out, N7.out, rp, rb, wq⟩)
        clear HS7 C0 C6 N7 SZ P7 GG7 Q7 R7 L7 M7
        subst hw7
        have N9 := hid hn9
        clear hn9
        obtain ⟨n0, n1, n2, n3, n4, n5, nz⟩ := BQ6.out
        obtain ⟨b0, b1, b2, b3, b4, b5, _⟩ := BE6.out
        go_upto_region 10 with fail
        generalize World.alloc (World.setCell _ ⟨q, 5, none⟩ _) _ = w8 at *
        generalize w6.heap.size = g7 at *
        clear n0 n1 n2 n3 n4 n5 nz b0 b1 b2 b3 b4 b5 HP6 G6 BE6 N6 BQ6 BR6 ND6 BX y1 y3
        have KLT : k < k5 := by omega
        have KLE : k ≤ k5 := by omega
        cases rt with
        | none =>
          have ok0 : ok5 = false := HO9.out.symm
          subst ok0
          have LR := hid (show R = ⟨none, ws.drop k5, ro⟩ from LR0.out)
          by_cases a2 : a = 2
          · have a2' : ((a : Int) == 2) = true := by rw [a2]; rfl
            clear a2 HL9
            go_upto_region 11 with fail
            obtain ⟨n0, n1, n2, n3, n4, n5, _⟩ := BY.out.bq
            obtain ⟨r0, r1, r2, r3, r4, r5, rz⟩ := BY.out.br
            have BF := hid (BY.out.br.sets (.string n9.op) (.string n9.name) (.int .i64 (n9.kind : Nat)) (.int .i64 n9.n) (.int .i64 (n9.pl : Nat)) (.slice (some ⟨g7, 0, none⟩) 2 2))
            have PF := hid (BY.out.ps.put6 (q := w.heap.size) (by omega) (by omega) (.string n9.op) (.string n9.name) (.int .i64 (n9.kind : Nat)) (.int .i64 n9.n) (.int .i64 (n9.pl : Nat)) (.slice (some ⟨g7, 0, none⟩) 2 2))
            have GF := hid (BY.out.gr.put6 (q := w.heap.size) (by omega) (.string n9.op) (.string n9.name) (.int .i64 (n9.kind : Nat)) (.int .i64 n9.n) (.int .i64 (n9.pl : Nat)) (.slice (some ⟨g7, 0, none⟩) 2 2))
            have NF := hid (BY.out.nd.put6 (q := w.heap.size) (by omega) (.string n9.op) (.string n9.name) (.int .i64 (n9.kind : Nat)) (.int .i64 n9.n) (.int .i64 (n9.pl : Nat)) (.slice (some ⟨g7, 0, none⟩) 2 2))
            go_wp2_with fail
            generalize World.setCell _ ⟨w.heap.size, 5, none⟩ _ = w9 at *
            obtain ⟨f0, f1, f2, f3, f4, f5, _⟩ := BF.out
            exact bodyPost_ret (v := .tuple #[.agg #[.string n9.op, .string n9.name, .int .i64 (n9.kind : Nat), .int .i64 n9.n, .int .i64 (n9.pl : Nat), .slice (some ⟨g7, 0, none⟩) 2 2], .bool false]) (by simp [results, Tryd.results67, go_sem, f0, f1, f2, f3, f4, f5]) rfl (Rp.no KLE LR.out GF.out PF.out ⟨_, rfl, NF.out.keep fun g s l => ⟨by omega, rfl⟩⟩)

          · have a2' : ((a : Int) == 2) = false := by rw [beq_eq_false_iff_ne]; omega
            clear a2 HL9
            go_wp2_with fail
            go_roundg (msr false (ws.length - k5))
            case measure => unfold msr; simp
            case rel => exact ⟨false, f, k5, ro, n9, _, _, _, rfl, rfl, by omega, BY, Or.inr ⟨rfl, LR.out⟩⟩
        | some t0 =>
          have ok1 : ok5 = true := HO9.out.symm
          subst ok1
          obtain rfl : t5 = t0 := HT9.out t0 rfl
          by_cases a2 : a = 2
          · have a2' : ((a : Int) == 2) = true := by rw [a2]; rfl
            have LR := hid (show R = ⟨some n9, ws.drop k5, ro⟩ from by rw [LR0.out, N9.out]; show (if a = 2 then _ else _) = _; rw [if_pos a2])
            clear a2 HL9
            go_upto_region 11 with fail
            obtain ⟨n0, n1, n2, n3, n4, n5, _⟩ := BY.out.bq
            obtain ⟨r0, r1, r2, r3, r4, r5, rz⟩ := BY.out.br
            have BF := hid (BY.out.br.sets (.string n9.op) (.string n9.name) (.int .i64 (n9.kind : Nat)) (.int .i64 n9.n) (.int .i64 (n9.pl : Nat)) (.slice (some ⟨g7, 0, none⟩) 2 2))
            have PF := hid (BY.out.ps.put6 (q := w.heap.size) (by omega) (by omega) (.string n9.op) (.string n9.name) (.int .i64 (n9.kind : Nat)) (.int .i64 n9.n) (.int .i64 (n9.pl : Nat)) (.slice (some ⟨g7, 0, none⟩) 2 2))
            have GF := hid (BY.out.gr.put6 (q := w.heap.size) (by omega) (.string n9.op) (.string n9.name) (.int .i64 (n9.kind : Nat)) (.int .i64 n9.n) (.int .i64 (n9.pl : Nat)) (.slice (some ⟨g7, 0, none⟩) 2 2))
            have NF := hid (BY.out.nd.put6 (q := w.heap.size) (by omega) (.string n9.op) (.string n9.name) (.int .i64 (n9.kind : Nat)) (.int .i64 n9.n) (.int .i64 (n9.pl : Nat)) (.slice (some ⟨g7, 0, none⟩) 2 2))
            go_wp2_with fail
            generalize World.setCell _ ⟨w.heap.size, 5, none⟩ _ = w9 at *
            obtain ⟨f0, f1, f2, f3, f4, f5, _⟩ := BF.out
            exact bodyPost_ret (v := .tuple #[.agg #[.string n9.op, .string n9.name, .int .i64 (n9.kind : Nat), .int .i64 n9.n, .int .i64 (n9.pl : Nat), .slice (some ⟨g7, 0, none⟩) 2 2], .bool true]) (by simp [results, Tryd.results67, go_sem, f0, f1, f2, f3, f4, f5]) rfl (Rp.yes KLT LR.out GF.out PF.out ⟨_, rfl, NF.out.keep fun g s l => ⟨by omega, rfl⟩⟩)

          · have a2' : ((a : Int) == 2) = false := by rw [beq_eq_false_iff_ne]; omega
            have LR := hid (show loopF B a f n9 (ws.drop k5) ro = R from by rw [LR0.out, N9.out]; show _ = (if a = 2 then _ else _); rw [if_neg a2])
            clear a2 HL9
            go_wp2_with fail
            go_roundg (msr true (ws.length - k5))
            case measure => unfold msr; simp; omega
            case rel => exact ⟨true, f, k5, ro, n9, _, _, _, rfl, rfl, by omega, BY, Or.inl ⟨rfl, KLT, LR.out, by omega⟩⟩
      · have LR := hid (show R = ⟨some n, ws.drop k', o'⟩ from by rw [← LFH.out]; exact loop_no (by rw [TX.out, hlv]; exact y))
        go_upto_region 4 with fail
        go_quiet (first | (go_at_call 79; with_reducible exact qsame LV.out))
        replace BX := hid (BX.out.next (drewN_below wr nq))
        generalize wr.drewN nq = w2 at *
        go_upto_region 11 with fail
        obtain ⟨n0, n1, n2, n3, n4, n5, _⟩ := BX.out.bq
        obtain ⟨r0, r1, r2, r3, r4, r5, rz⟩ := BX.out.br
        have BF := hid (BX.out.br.sets (.string n.op) (.string n.name) (.int .i64 (n.kind : Nat)) (.int .i64 n.n) (.int .i64 (n.pl : Nat)) (.slice sa sm sc))
        have PF := hid (BX.out.ps.put6 (q := w.heap.size) (by omega) (by omega) (.string n.op) (.string n.name) (.int .i64 (n.kind : Nat)) (.int .i64 n.n) (.int .i64 (n.pl : Nat)) (.slice sa sm sc))
        have GF := hid (BX.out.gr.put6 (q := w.heap.size) (by omega) (.string n.op) (.string n.name) (.int .i64 (n.kind : Nat)) (.int .i64 n.n) (.int .i64 (n.pl : Nat)) (.slice sa sm sc))
        have NF := hid (BX.out.nd.put6 (q := w.heap.size) (by omega) (.string n.op) (.string n.name) (.int .i64 (n.kind : Nat)) (.int .i64 n.n) (.int .i64 (n.pl : Nat)) (.slice sa sm sc))
        go_wp2_with fail
        generalize World.setCell _ ⟨w.heap.size, 5, none⟩ _ = w9 at *
        obtain ⟨f0, f1, f2, f3, f4, f5, _⟩ := BF.out
        exact bodyPost_ret (v := .tuple #[.agg #[.string n.op, .string n.name, .int .i64 (n.kind : Nat), .int .i64 n.n, .int .i64 (n.pl : Nat), .slice sa sm sc], .bool true]) (by simp [results, Tryd.results67, go_sem, f0, f1, f2, f3, f4, f5]) rfl (Rp.yes KLT LR.out GF.out PF.out ⟨_, rfl, NF.out.keep fun g s l => ⟨by omega, rfl⟩⟩)

end Go.Proofs.YtobolipjgkabhaaDoor
