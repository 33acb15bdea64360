/- The walk over the parser's statute. -/
import Derived.Test.YtobolipjgkabhaaDoorSp
import Derived.Deep.LoopGhost
import Derived.BigQuiet
import Derived.Deep.RegionHeld3
namespace Go.Proofs.YtobolipjgkabhaaDoor
open Go.RowKit
set_option linter.unusedVariables false
set_option linter.unusedSimpArgs false

/-- What statute answers, in memory. -/
def Rq (w w' : World) (p b c : Nat) (ws : List Wo) (e : Ending) (r : Rs) : Prop := Gr w w' p ∧ ∃ k' v, r.l = ws.drop k' ∧ Ps w' p b c ws k' r.o ∧ e = .returned (.tuple #[v, .bool r.t.isSome]) ∧ ∃ t, Nv w' (fun g => w.heap.size ≤ g) v t ∧ ∀ t', r.t = some t' → t = t'
def declR (f : Nat) (n : Tr) (r : Rs) : Rs := match r with | ⟨none, l', o'⟩ => ⟨none, l', o'⟩ | ⟨some u, l', o'⟩ => declsF f (n.add u) l' o'
theorem decls_is {f : Nat} {n : Tr} {l : List Wo} {o : Option Nat} (h : ¬ l.length ≤ 1) : declsF (f + 1) n l o = declR f n (declF l o) := by
  unfold declR
  simp only [declsF]
  rw [if_neg h]
  generalize declF l o = r
  obtain ⟨t, l', o'⟩ := r
  cases t <;> rfl
theorem decls_end {f : Nat} {n : Tr} {l : List Wo} {o : Option Nat} (h : l.length ≤ 1) : declsF f n l o = ⟨some n, l, o⟩ := by
  cases f with
  | zero => rfl
  | succ f => simp only [declsF]; rw [if_pos h]
set_option maxRecDepth 100000 in
set_option maxHeartbeats 4000000 in
theorem pstat_any {w : World} {p b c : Nat} {ws : List Wo} (hT : KT w) (hg : 1 ≠ p) (hC : TC ws) (h : Ps w p b c ws 0 none) :
    Calls Tryd.prog 9 #[.pointer (some ⟨p, 0, none⟩)] w fun e w' => Rq w w' p b c ws e (statF ws) := by
  have rp := h.pl
  have rb := h.bl
  have HB := hid (B6.new w 26 (.string ⟨#[]⟩) (.string ⟨#[]⟩) (.int .i64 0) (.int .i64 0) (.int .i64 0) (.slice none 0 0))
  have HS0 : Hid (Below w.heap.size w (w.alloc (.cells #[.string ⟨#[]⟩, .string ⟨#[]⟩, .int .i64 0, .int .i64 0, .int .i64 0, .slice none 0 0] 26))) := (Below.refl _ _).alloc (Nat.le_refl _) _
  have HP := hid (h.next HS0.out)
  have HG := hid ((Gr.refl w p).below HS0.out)
  have WS := hid (show w.heap.size < (w.alloc (.cells #[.string ⟨#[]⟩, .string ⟨#[]⟩, .int .i64 0, .int .i64 0, .int .i64 0, .slice none 0 0] 26)).heap.size from by simp)
  have HT := hid (hT.next HS0.out)
  have l2 := h.len
  have l3 := h.lt
  have l2' : (ws.length : Int) ≤ 9000 := by omega
  have l3' : (0 : Int) < (ws.length : Int) := by omega
  have CH := hid hC
  have TH := hid hT
  obtain ⟨x, cu⟩ := h.cur
  have XA := hid cu.at_
  obtain ⟨R, hR⟩ : ∃ R, statF ws = R := ⟨_, rfl⟩
  have RX := hid (show declsF ws.length (op0 ⟨#[115, 116, 97, 116, 117, 116, 101]⟩ x.a) (ws.drop 0) none = R from by rw [← hR, List.drop_zero]; unfold statF; rw [show aw ws = x.a from by rw [show ws = ws.drop 0 from rfl, cu.dr]; rfl]; rfl)
  rw [hR]
  have c0 := HP.out.c0
  have d3 := HP.out.w3 _ _ XA.out
  clear h hT hR cu hC
  obtain ⟨xk, xt, xn, xa⟩ := x
  simp only at RX XA d3
  simp only [Nat.zero_mul, Nat.zero_add] at d3
  go_enter Tryd.func9, Tryd.ntmps9
  go_upto_region 1 with fail
  generalize World.alloc w _ = w1 at *
  have HS1 := hid (show Below w1.heap.size w1 (w1.alloc (.cells #[.string ⟨#[115, 116, 97, 116, 117, 116, 101]⟩, .string ⟨#[]⟩, .int .i64 0, .int .i64 0, .int .i64 (xa : Nat), .slice none 0 0] 26)) from (Below.refl _ _).alloc (Nat.le_refl _) _)
  have SB := hid (show (w1.alloc (.cells #[.string ⟨#[115, 116, 97, 116, 117, 116, 101]⟩, .string ⟨#[]⟩, .int .i64 0, .int .i64 0, .int .i64 (xa : Nat), .slice none 0 0] 26)).heap.size = w1.heap.size + 1 from by simp)
  have F0 := hid (show Fm w (w1.alloc (.cells #[.string ⟨#[115, 116, 97, 116, 117, 116, 101]⟩, .string ⟨#[]⟩, .int .i64 0, .int .i64 0, .int .i64 (xa : Nat), .slice none 0 0] 26)) p b c ws w1.heap.size (w1.heap.size + 1) 0 none (op0 ⟨#[115, 116, 97, 116, 117, 116, 101]⟩ xa) (.slice none 0 0) from
    ⟨HP.out.next HS1.out, HG.out.below HS1.out, B6.new w1 26 (.string ⟨#[115, 116, 97, 116, 117, 116, 101]⟩) (.string ⟨#[]⟩) (.int .i64 0) (.int .i64 0) (.int .i64 (xa : Nat)) (.slice none 0 0), HB.out.next HS1.out, Kr.nil _ _, Nat.zero_le _, by rw [SB.out]; exact Nat.le_refl _, rp, rb, WS.out, Nat.lt_succ_self _⟩)
  go_upto_region 2 with fail
  clear HS1 SB HP HG HB WS c0 d3 HS0
  generalize World.alloc w1 _ = w2 at *
  generalize w1.heap.size = q at *
  go_loopg [6] (ws.length + 1) (fun g ov wr => ∃ (f k' : Nat) (o' : Option Nat) (n : Tr) (sa : Option Addr) (sm sc : Nat), k' < ws.length ∧ g = ws.length + 1 - k' ∧ n.kids.length ≤ k' ∧ Hid (Fm w wr p b c ws q (q + 1) k' o' n (.slice sa sm sc)) ∧ Hid (declsF f n (ws.drop k') o' = R ∧ ws.length - k' ≤ f))
  case atStart => exact ⟨ws.length, 0, none, op0 ⟨#[115, 116, 97, 116, 117, 116, 101]⟩ xa, none, 0, 0, l3, rfl, Nat.zero_le _, F0, RX.out, Nat.le_refl _⟩
  case round =>
    clear F0 RX
    obtain ⟨f, k', o', n, sa, sm, sc, hk, rfl, hkl, FH, RH⟩ := hrel
    have wq := FH.out.wq
    have hkl2 : n.kids.length < 20000 := by omega
    have c0 := FH.out.ps.c0
    have c1 := FH.out.ps.c1
    by_cases y : k' + 1 < ws.length
    · have y' : (k' : Int) < (ws.length : Int) - 1 := by omega
      go_upto_region 2 with fail
      go_quiet (fail)
      replace FH := hid (FH.out.next (drewN_below wr nq))
      clear c0 c1
      generalize wr.drewN nq = w3 at *
      obtain ⟨f, rfl⟩ : ∃ f', f = f' + 1 := ⟨f - 1, by have := RH.out.2; omega⟩
      obtain ⟨RK, hRK⟩ : ∃ RK, declF (ws.drop k') o' = RK := ⟨_, rfl⟩
      have LR0 := hid (show R = declR f n RK from by rw [← RH.out.1, decls_is (by rw [List.length_drop]; omega), hRK])
      have FU := RH.out.2
      have HC := hid (show Calls _ _ _ _ (fun e w' => Rp _ w' p b c ws k' e RK) from by have := pdecl_any (TH.out.gr FH.out.gr hg) hg CH.out FH.out.ps; rw [hRK] at this; exact this)
      clear hRK RH
      obtain ⟨rt, rl, ro⟩ := RK
      have LT := hid FH.out.kr.lt
      have eb : q + 1 ≤ w3.heap.size := FH.out.ba
      go_upto_region 4 with (go_at_call 17; with_reducible refine Calls.mono (HC.out) ?_; rintro e w5 h5; obtain ⟨g5, k5, t5, sa5, sm5, sc5, ok5, hk5, hk6, hl5, p5, rfl, hok, nv5, ht5⟩ := h5.parts; have F5 := hid (FH.out.call g5 p5); have NV5 := hid nv5; have HL9 := hid hl5; have HO9 := hid hok; have HT9 := hid ht5; have HK6 := hid hk6; have GS5 := hid g5.size; clear g5 p5 nv5 hl5 hok ht5 h5 hk6)
      have HL9 := HL9.out
      have HL9 : rl = ws.drop k5 := HL9
      subst HL9
      have HS6 := hid (show Below w5.heap.size w5 (w5.alloc (.cells #[.string t5.op, .string t5.name, .int .i64 (t5.kind : Nat), .int .i64 t5.n, .int .i64 (t5.pl : Nat), .slice sa5 sm5 sc5] 26)) from (Below.refl _ _).alloc (Nat.le_refl _) _)
      have F7 := hid (F5.out.next HS6.out)
      have B7 := hid (B6.new w5 26 (.string t5.op) (.string t5.name) (.int .i64 (t5.kind : Nat)) (.int .i64 t5.n) (.int .i64 (t5.pl : Nat)) (.slice sa5 sm5 sc5))
      have N7 := hid (NV5.out.next HS6.out)
      clear F5 NV5 HS6 HC
      generalize World.alloc w5 _ = w7 at *
      generalize w5.heap.size = eg at *
      cases rt with
      | none =>
        have ok0 : ok5 = false := HO9.out.symm
        subst ok0
        have LR := hid (show R = ⟨none, ws.drop k5, ro⟩ from LR0.out)
        clear HL9
        go_upto_region 5 with fail
        obtain ⟨r0, r1, r2, r3, r4, r5, rz⟩ := F7.out.br
        have BF := hid (F7.out.br.sets (.string ⟨#[]⟩) (.string ⟨#[]⟩) (.int .i64 0) (.int .i64 0) (.int .i64 0) (.slice none 0 0))
        have PF := hid (F7.out.ps.put6 (q := w.heap.size) (by omega) (by omega) (.string ⟨#[]⟩) (.string ⟨#[]⟩) (.int .i64 0) (.int .i64 0) (.int .i64 0) (.slice none 0 0))
        have GF := hid (F7.out.gr.put6 (q := w.heap.size) (by omega) (.string ⟨#[]⟩) (.string ⟨#[]⟩) (.int .i64 0) (.int .i64 0) (.int .i64 0) (.slice none 0 0))
        go_wp2_with fail
        generalize World.setCell _ ⟨w.heap.size, 5, none⟩ _ = w9 at *
        obtain ⟨f0, f1, f2, f3, f4, f5, _⟩ := BF.out
        exact bodyPost_ret (v := .tuple #[.agg #[.string ⟨#[]⟩, .string ⟨#[]⟩, .int .i64 0, .int .i64 0, .int .i64 0, .slice none 0 0], .bool false]) (by simp [results, Tryd.results9, go_sem, f0, f1, f2, f3, f4, f5]) rfl (by rw [LR.out]; exact ⟨GF.out, k5, _, rfl, PF.out, rfl, _, Nv.leaf ⟨#[]⟩ ⟨#[]⟩ 0 0 0, fun t' e => by cases e⟩)
      | some t0 =>
        have ok1 : ok5 = true := HO9.out.symm
        subst ok1
        obtain rfl : t5 = t0 := HT9.out t0 rfl
        have hk7 : k' < k5 := HK6.out rfl
        have HRn := hid (show declsF f (n.add t5) (ws.drop k5) ro = R from LR0.out.symm)
        have HS8 := hid (show Below w7.heap.size w7 (w7.alloc (.cells #[.string t5.op, .string t5.name, .int .i64 (t5.kind : Nat), .int .i64 t5.n, .int .i64 (t5.pl : Nat), .slice sa5 sm5 sc5] 26)) from (Below.refl _ _).alloc (Nat.le_refl _) _)
        have F8 := hid (F7.out.next HS8.out)
        have C8 := hid (B6.new w7 26 (.string t5.op) (.string t5.name) (.int .i64 (t5.kind : Nat)) (.int .i64 t5.n) (.int .i64 (t5.pl : Nat)) (.slice sa5 sm5 sc5)).nc
        have N8 := hid (show Nd (w7.alloc (.cells #[.string t5.op, .string t5.name, .int .i64 (t5.kind : Nat), .int .i64 t5.n, .int .i64 (t5.pl : Nat), .slice sa5 sm5 sc5] 26)) (fun g => q + 1 ≤ g ∧ some g ≠ (Value.slice sa sm sc).ownBlock) (.slice sa5 sm5 sc5) t5.kids from N7.out.keep fun g s l => ⟨⟨by omega, fun e => by have := (LT.out g e.symm).2; omega⟩, HS8.out.block g l⟩)
        obtain ⟨b0, b1, b2, b3, b4, b5, _⟩ := B7.out
        obtain ⟨n0, n1, n2, n3, n4, n5, nz⟩ := F7.out.bq
        have ba8 := F8.out.ba
        have kl5 := F7.out.ps.lt
        clear F7 B7 N7 HL9
        have yk : (n.add t5).kids.length ≤ k5 := by cases n; simp [Tr.add, Tr.kids] at hkl ⊢; omega
        go_wp2_with (at_builtin; refine wpList_addN rfl (.tmp 35) (.tmp 37) rfl (q + 1) (.slice sa sm sc) n.kids t5 (.slice sa5 sm5 sc5) rfl F8.out.kr w7.heap.size rfl C8.out N8.out (by omega) (by first | exact ba8 | (simp; omega)) ?_; intro v2 w9 o2 g2; obtain ⟨va, vm, vc, rfl⟩ := o2.nd.sl; have F9 := hid (F8.out.kid g2 o2 hkl2); have m5 := (F8.out.bq.grown g2 (F8.out.off (by omega))).c5; have mz := (F8.out.bq.grown g2 (F8.out.off (by omega))).fz 5; clear o2 g2 n0 n1 n2 n3 n4 n5 nz b0 b1 b2 b3 b4 b5)
        go_roundg (ws.length + 1 - k5)
        case measure => omega
        case rel => exact ⟨f, k5, ro, n.add t5, _, _, _, kl5, rfl, yk, F9, HRn.out, by omega⟩
    · have y' : ¬ (k' : Int) < (ws.length : Int) - 1 := by omega
      have LR := hid (show R = ⟨some n, ws.drop k', o'⟩ from by rw [← RH.out.1]; exact decls_end (by rw [List.length_drop]; omega))
      go_upto_region 2 with fail
      go_quiet (fail)
      replace FH := hid (FH.out.next (drewN_below wr nq))
      clear c0 c1
      generalize wr.drewN nq = w3 at *
      go_upto_region 7 with fail
      obtain ⟨n0, n1, n2, n3, n4, n5, _⟩ := FH.out.bq
      obtain ⟨r0, r1, r2, r3, r4, r5, rz⟩ := FH.out.br
      have BF := hid (FH.out.br.sets (.string n.op) (.string n.name) (.int .i64 (n.kind : Nat)) (.int .i64 n.n) (.int .i64 (n.pl : Nat)) (.slice sa sm sc))
      have PF := hid (FH.out.ps.put6 (q := w.heap.size) (by omega) (by omega) (.string n.op) (.string n.name) (.int .i64 (n.kind : Nat)) (.int .i64 n.n) (.int .i64 (n.pl : Nat)) (.slice sa sm sc))
      have GF := hid (FH.out.gr.put6 (q := w.heap.size) (by omega) (.string n.op) (.string n.name) (.int .i64 (n.kind : Nat)) (.int .i64 n.n) (.int .i64 (n.pl : Nat)) (.slice sa sm sc))
      have NF := hid (FH.out.yes.put6 (q := w.heap.size) (by omega) (.string n.op) (.string n.name) (.int .i64 (n.kind : Nat)) (.int .i64 n.n) (.int .i64 (n.pl : Nat)) (.slice sa sm sc))
      go_wp2_with fail
      generalize World.setCell _ ⟨w.heap.size, 5, none⟩ _ = w9 at *
      obtain ⟨f0, f1, f2, f3, f4, f5, _⟩ := BF.out
      exact bodyPost_ret (v := .tuple #[.agg #[.string n.op, .string n.name, .int .i64 (n.kind : Nat), .int .i64 n.n, .int .i64 (n.pl : Nat), .slice sa sm sc], .bool true]) (by simp [results, Tryd.results9, go_sem, f0, f1, f2, f3, f4, f5]) rfl (by rw [LR.out]; exact ⟨GF.out, k', _, rfl, PF.out, rfl, n, ⟨_, rfl, NF.out.keep fun g s l => ⟨by omega, rfl⟩⟩, fun t' e => by injection e⟩)
end Go.Proofs.YtobolipjgkabhaaDoor
