/- The walks over the parser's turned and unary. -/
import Derived.Test.YtobolipjgkabhaaDoorSh
import Derived.BigQuiet
import Derived.Deep.RegionHeld3
namespace Go.Proofs.YtobolipjgkabhaaDoor
open Go.RowKit
set_option linter.unusedVariables false
set_option linter.unusedSimpArgs false

set_option maxRecDepth 100000 in
set_option maxHeartbeats 4000000 in
theorem pturn_any {w : World} {p b c : Nat} {ws : List Wo} {k : Nat} {o : Option Nat} (op : ByteArray) (deep : Nat) {U : Ex} {N : Nat} (hU : UC U N p b c ws) (hT : KT w) (hN : ws.length - k ≤ N) (hD : deep + (ws.length - k) ≤ 10000) (hg : 1 ≠ p) (hm : k + 1 < ws.length) (h : Ps w p b c ws k o) :
    Calls Tryd.prog 87 #[.pointer (some ⟨p, 0, none⟩), .string op, .int .i64 (deep : Nat)] w fun e w' => Rp w w' p b c ws k e (turnF U op deep (ws.drop k) o) := by
  have rp := h.pl
  have rb := h.bl
  have HB := hid (B6.new w 26 (.string ⟨#[]⟩) (.string ⟨#[]⟩) (.int .i64 0) (.int .i64 0) (.int .i64 0) (.slice none 0 0))
  have HS0 : Hid (Below w.heap.size w (w.alloc (.cells #[.string ⟨#[]⟩, .string ⟨#[]⟩, .int .i64 0, .int .i64 0, .int .i64 0, .slice none 0 0] 26))) := (Below.refl _ _).alloc (Nat.le_refl _) _
  have HP := hid (h.next HS0.out)
  have HG := hid ((Gr.refl w p).below HS0.out)
  have WS := hid (show w.heap.size < (w.alloc (.cells #[.string ⟨#[]⟩, .string ⟨#[]⟩, .int .i64 0, .int .i64 0, .int .i64 0, .slice none 0 0] 26)).heap.size from by simp)
  have HT := hid (hT.next HS0.out)
  have hd : (deep : Int) ≤ 10000 := by omega
  have UH := hid hU
  obtain ⟨x, cu⟩ := h.cur
  have XA := hid cu.at_
  have AX := hid (show aw (ws.drop k) = x.a from by rw [cu.dr]; rfl)
  obtain ⟨o2, ho2⟩ : ∃ o2, (if 40 < deep + 1 then passO o (ws.drop (k + 1)) else o) = o2 := ⟨_, rfl⟩
  obtain ⟨RK, hRK⟩ : ∃ RK, U (deep + 1) (ws.drop (k + 1)) o2 = RK := ⟨_, rfl⟩
  have RX := hid (show turnF U op deep (ws.drop k) o = turnR op x.a RK from by rw [turn_is, List.tail_drop, ho2, hRK, AX.out])
  obtain ⟨R, hR⟩ : ∃ R, turnF U op deep (ws.drop k) o = R := ⟨_, rfl⟩
  rw [hR] at RX ⊢
  have O2 := hid ho2
  have RKH := hid hRK
  have l1 : (k : Int) < (ws.length : Int) := by omega
  have l2 : ws.length ≤ 9000 := h.len
  have c0 := HP.out.c0
  have c1 := HP.out.c1
  have d3 := HP.out.w3 _ _ XA.out
  clear h hT hR ho2 hRK cu AX
  obtain ⟨xk, xt, xn, xa⟩ := x
  simp only at RX XA d3
  go_enter Tryd.func87, Tryd.ntmps87
  go_upto_region 1 with fail
  generalize World.alloc w _ = w1 at *
  go_quiet (fail)
  have BQ := hid (drewN_below w1 nq)
  replace HP := hid (HP.out.next BQ.out)
  replace HG := hid (HG.out.below BQ.out)
  replace HB := hid (HB.out.next BQ.out)
  replace WS := hid (Nat.lt_of_lt_of_le WS.out BQ.out.size)
  replace HT := hid (HT.out.next BQ.out)
  clear c0 c1 d3 BQ
  generalize w1.drewN nq = w2 at *
  have p1 := HP.out.c1
  have pz := HP.out.fz 1
  have HP3 := hid (HP.out.step hm)
  have HG3 := hid (HG.out.set (i := 1) (.int .i64 ((k : Int) + 1)))
  have HB3 := hid (HB.out.put (i := 1) (q := p) (by omega) (.int .i64 ((k : Int) + 1)))
  have WS3 := hid (show w.heap.size < (w2.setCell ⟨p, 1, none⟩ (.int .i64 ((k : Int) + 1))).heap.size from by simpa using WS.out)
  have HT3 := hid (HT.out.gr ((Gr.refl w2 p).set (i := 1) (.int .i64 ((k : Int) + 1))) hg)
  go_upto_region 3 with fail
  generalize World.setCell w2 _ _ = w3 at *
  clear p1 pz HP HG HB WS HT
  by_cases z : 40 < deep + 1
  · have z' : 40 < (deep : Int) + 1 := by omega
    have PA := hid (pass_any HP3.out)
    rw [show passO o (ws.drop (k + 1)) = o2 from by rw [← O2.out, if_pos z]] at PA
    go_upto_region 5 with (go_at_call 48; with_reducible refine Calls.mono PA.out ?_; rintro e w4 ⟨rfl, p4, g4⟩; replace HP3 := hid p4; replace HG3 := hid (HG3.out.trans g4); replace HB3 := hid (HB3.out.gr g4 (by omega)); replace WS3 := hid (Nat.lt_of_lt_of_le WS3.out g4.size); replace HT3 := hid (HT3.out.gr g4 hg); clear p4 g4)
    have HC := hid (show Calls Tryd.prog 78 #[.pointer (some ⟨p, 0, none⟩), .int .i64 ((deep : Int) + 1)] _ _ from by have := UH.out _ (k + 1) (deep + 1) _ HP3.out HT3.out (by omega) (by omega); rw [RKH.out] at this; exact this)
    obtain ⟨rt, rl, ro⟩ := RK
    go_upto_region 6 with (go_at_call 78; with_reducible refine Calls.mono (HC.out) ?_; rintro e w5 h5; obtain ⟨g5, k', t, sa, sm, sc, ok, hk, hk2, hl, p5, rfl, hok, nv, ht⟩ := h5.parts; have HK2 := hid hk2; clear hk2; have HR5 := hid (HB3.out.gr g5 (by omega)); have HP5 := hid p5; have HG5 := hid (HG3.out.trans g5); have HN5 := hid nv; have HT5 := hid ht; have HL5 := hid hl; have HO5 := hid hok; have GS5 := hid g5.size; clear h5 g5 p5 nv ht hl hok)
    have HS6 := hid (show Below w5.heap.size w5 (w5.alloc (.cells #[.string t.op, .string t.name, .int .i64 (t.kind : Nat), .int .i64 t.n, .int .i64 (t.pl : Nat), .slice sa sm sc] 26)) from (Below.refl _ _).alloc (Nat.le_refl _) _)
    have B6n := hid (B6.new w5 26 (.string t.op) (.string t.name) (.int .i64 (t.kind : Nat)) (.int .i64 t.n) (.int .i64 (t.pl : Nat)) (.slice sa sm sc))
    have HP6 := hid (HP5.out.next HS6.out)
    have HG6 := hid (HG5.out.below HS6.out)
    have HB6 := hid (HR5.out.next HS6.out)
    have HN6 := hid (HN5.out.next HS6.out)
    have WS6 := hid (show w.heap.size < w5.heap.size from Nat.lt_of_lt_of_le WS3.out GS5.out)
    generalize World.alloc w5 _ = w6 at *
    generalize w5.heap.size = gb at *
    obtain ⟨b0, b1, b2, b3, b4, b5, _⟩ := B6n.out
    have HS7 := hid (show Below w6.heap.size w6 (w6.alloc (.cells #[.string t.op, .string t.name, .int .i64 (t.kind : Nat), .int .i64 t.n, .int .i64 (t.pl : Nat), .slice sa sm sc] 26)) from (Below.refl _ _).alloc (Nat.le_refl _) _)
    have B7n := hid (B6.new w6 26 (.string t.op) (.string t.name) (.int .i64 (t.kind : Nat)) (.int .i64 t.n) (.int .i64 (t.pl : Nat)) (.slice sa sm sc))
    have WS7 := hid (show w.heap.size < w6.heap.size from by have := B6n.out.lt; have := WS6.out; omega)
    have BR7 := hid (HB6.out.next HS7.out)
    have NN7 := hid (Nd.one (c := 1) (S := fun g => w.heap.size + 1 ≤ g) (by have := WS7.out; omega) B7n.out.nc ((HN6.out.next HS7.out).weak (by have := WS3.out; omega)))
    obtain ⟨r0, r1, r2, r3, r4, r5, rz⟩ := BR7.out
    have BF := hid (BR7.out.sets (.string op) (.string ⟨#[]⟩) (.int .i64 0) (.int .i64 0) (.int .i64 (xa : Nat)) (.slice (some ⟨w6.heap.size, 0, none⟩) 1 1))
    have PF := hid ((HP6.out.next HS7.out).put6 (q := w.heap.size) (by omega) (by omega) (.string op) (.string ⟨#[]⟩) (.int .i64 0) (.int .i64 0) (.int .i64 (xa : Nat)) (.slice (some ⟨w6.heap.size, 0, none⟩) 1 1))
    have GF := hid ((HG6.out.below HS7.out).put6 (q := w.heap.size) (by omega) (.string op) (.string ⟨#[]⟩) (.int .i64 0) (.int .i64 0) (.int .i64 (xa : Nat)) (.slice (some ⟨w6.heap.size, 0, none⟩) 1 1))
    have NF := hid (NN7.out.put6w (q := w.heap.size) (m := w.heap.size) (by omega) (.string op) (.string ⟨#[]⟩) (.int .i64 0) (.int .i64 0) (.int .i64 (xa : Nat)) (.slice (some ⟨w6.heap.size, 0, none⟩) 1 1))
    go_wp2_with fail
    generalize World.setCell _ ⟨w.heap.size, 5, none⟩ _ = w9 at *
    obtain ⟨f0, f1, f2, f3, f4, f5, _⟩ := BF.out
    exact bodyPost_ret (v := .tuple #[.agg #[.string op, .string ⟨#[]⟩, .int .i64 0, .int .i64 0, .int .i64 (xa : Nat), .slice (some ⟨w6.heap.size, 0, none⟩) 1 1], .bool ok]) (by simp [results, Tryd.results87, go_sem, f0, f1, f2, f3, f4, f5]) rfl (by rw [RX.out]; exact ⟨GF.out, k', _, by omega, fun e => by omega, HL5.out, PF.out, congrArg (fun x => Ending.returned (.tuple #[.agg #[.string op, .string ⟨#[]⟩, .int .i64 0, .int .i64 0, .int .i64 (xa : Nat), .slice (some ⟨w6.heap.size, 0, none⟩) 1 1], .bool x])) (show ok = (Option.map _ rt).isSome from by rw [Option.isSome_map]; exact HO5.out.symm), .nd op ⟨#[]⟩ 0 0 xa [t], ⟨_, rfl, NF.out⟩, fun t' e => by
      obtain ⟨t0, e1, e2⟩ := Option.map_eq_some_iff.1 e
      rw [← e2, HT5.out t0 e1]⟩)
  · have z' : ¬ 40 < (deep : Int) + 1 := by omega
    have eo : o = o2 := by rw [← O2.out, if_neg z]
    subst eo
    go_upto_region 5 with fail
    have HC := hid (show Calls Tryd.prog 78 #[.pointer (some ⟨p, 0, none⟩), .int .i64 ((deep : Int) + 1)] _ _ from by have := UH.out _ (k + 1) (deep + 1) _ HP3.out HT3.out (by omega) (by omega); rw [RKH.out] at this; exact this)
    obtain ⟨rt, rl, ro⟩ := RK
    go_upto_region 6 with (go_at_call 78; with_reducible refine Calls.mono (HC.out) ?_; rintro e w5 h5; obtain ⟨g5, k', t, sa, sm, sc, ok, hk, hk2, hl, p5, rfl, hok, nv, ht⟩ := h5.parts; have HK2 := hid hk2; clear hk2; have HR5 := hid (HB3.out.gr g5 (by omega)); have HP5 := hid p5; have HG5 := hid (HG3.out.trans g5); have HN5 := hid nv; have HT5 := hid ht; have HL5 := hid hl; have HO5 := hid hok; have GS5 := hid g5.size; clear h5 g5 p5 nv ht hl hok)
    have HS6 := hid (show Below w5.heap.size w5 (w5.alloc (.cells #[.string t.op, .string t.name, .int .i64 (t.kind : Nat), .int .i64 t.n, .int .i64 (t.pl : Nat), .slice sa sm sc] 26)) from (Below.refl _ _).alloc (Nat.le_refl _) _)
    have B6n := hid (B6.new w5 26 (.string t.op) (.string t.name) (.int .i64 (t.kind : Nat)) (.int .i64 t.n) (.int .i64 (t.pl : Nat)) (.slice sa sm sc))
    have HP6 := hid (HP5.out.next HS6.out)
    have HG6 := hid (HG5.out.below HS6.out)
    have HB6 := hid (HR5.out.next HS6.out)
    have HN6 := hid (HN5.out.next HS6.out)
    have WS6 := hid (show w.heap.size < w5.heap.size from Nat.lt_of_lt_of_le WS3.out GS5.out)
    generalize World.alloc w5 _ = w6 at *
    generalize w5.heap.size = gb at *
    obtain ⟨b0, b1, b2, b3, b4, b5, _⟩ := B6n.out
    have HS7 := hid (show Below w6.heap.size w6 (w6.alloc (.cells #[.string t.op, .string t.name, .int .i64 (t.kind : Nat), .int .i64 t.n, .int .i64 (t.pl : Nat), .slice sa sm sc] 26)) from (Below.refl _ _).alloc (Nat.le_refl _) _)
    have B7n := hid (B6.new w6 26 (.string t.op) (.string t.name) (.int .i64 (t.kind : Nat)) (.int .i64 t.n) (.int .i64 (t.pl : Nat)) (.slice sa sm sc))
    have WS7 := hid (show w.heap.size < w6.heap.size from by have := B6n.out.lt; have := WS6.out; omega)
    have BR7 := hid (HB6.out.next HS7.out)
    have NN7 := hid (Nd.one (c := 1) (S := fun g => w.heap.size + 1 ≤ g) (by have := WS7.out; omega) B7n.out.nc ((HN6.out.next HS7.out).weak (by have := WS3.out; omega)))
    obtain ⟨r0, r1, r2, r3, r4, r5, rz⟩ := BR7.out
    have BF := hid (BR7.out.sets (.string op) (.string ⟨#[]⟩) (.int .i64 0) (.int .i64 0) (.int .i64 (xa : Nat)) (.slice (some ⟨w6.heap.size, 0, none⟩) 1 1))
    have PF := hid ((HP6.out.next HS7.out).put6 (q := w.heap.size) (by omega) (by omega) (.string op) (.string ⟨#[]⟩) (.int .i64 0) (.int .i64 0) (.int .i64 (xa : Nat)) (.slice (some ⟨w6.heap.size, 0, none⟩) 1 1))
    have GF := hid ((HG6.out.below HS7.out).put6 (q := w.heap.size) (by omega) (.string op) (.string ⟨#[]⟩) (.int .i64 0) (.int .i64 0) (.int .i64 (xa : Nat)) (.slice (some ⟨w6.heap.size, 0, none⟩) 1 1))
    have NF := hid (NN7.out.put6w (q := w.heap.size) (m := w.heap.size) (by omega) (.string op) (.string ⟨#[]⟩) (.int .i64 0) (.int .i64 0) (.int .i64 (xa : Nat)) (.slice (some ⟨w6.heap.size, 0, none⟩) 1 1))
    go_wp2_with fail
    generalize World.setCell _ ⟨w.heap.size, 5, none⟩ _ = w9 at *
    obtain ⟨f0, f1, f2, f3, f4, f5, _⟩ := BF.out
    exact bodyPost_ret (v := .tuple #[.agg #[.string op, .string ⟨#[]⟩, .int .i64 0, .int .i64 0, .int .i64 (xa : Nat), .slice (some ⟨w6.heap.size, 0, none⟩) 1 1], .bool ok]) (by simp [results, Tryd.results87, go_sem, f0, f1, f2, f3, f4, f5]) rfl (by rw [RX.out]; exact ⟨GF.out, k', _, by omega, fun e => by omega, HL5.out, PF.out, congrArg (fun x => Ending.returned (.tuple #[.agg #[.string op, .string ⟨#[]⟩, .int .i64 0, .int .i64 0, .int .i64 (xa : Nat), .slice (some ⟨w6.heap.size, 0, none⟩) 1 1], .bool x])) (show ok = (Option.map _ rt).isSome from by rw [Option.isSome_map]; exact HO5.out.symm), .nd op ⟨#[]⟩ 0 0 xa [t], ⟨_, rfl, NF.out⟩, fun t' e => by
      obtain ⟨t0, e1, e2⟩ := Option.map_eq_some_iff.1 e
      rw [← e2, HT5.out t0 e1]⟩)

set_option maxRecDepth 100000 in
set_option maxHeartbeats 4000000 in
theorem punary_any {w : World} {p b c : Nat} {ws : List Wo} {k : Nat} {o : Option Nat} (deep : Nat) {U E : Ex} {N : Nat} (hU : UC U N p b c ws) (hT : KT w) (hN : ws.length - k ≤ N) (hD : deep + (ws.length - k) ≤ 10000) (hg : 1 ≠ p)
    (hB : ∀ (w : World), Ps w p b c ws k o → KT w → Calls Tryd.prog 88 #[.pointer (some ⟨p, 0, none⟩), .int .i64 (deep : Nat)] w fun e w' => Rp w w' p b c ws k e (primF E deep (ws.drop k) o)) (h : Ps w p b c ws k o) :
    Calls Tryd.prog 78 #[.pointer (some ⟨p, 0, none⟩), .int .i64 (deep : Nat)] w fun e w' => Rp w w' p b c ws k e (unF U E deep (ws.drop k) o) := by
  have rp := h.pl
  have rb := h.bl
  have HB := hid (B6.new w 26 (.string ⟨#[]⟩) (.string ⟨#[]⟩) (.int .i64 0) (.int .i64 0) (.int .i64 0) (.slice none 0 0))
  have HS0 : Hid (Below w.heap.size w (w.alloc (.cells #[.string ⟨#[]⟩, .string ⟨#[]⟩, .int .i64 0, .int .i64 0, .int .i64 0, .slice none 0 0] 26))) := (Below.refl _ _).alloc (Nat.le_refl _) _
  have HP := hid (h.next HS0.out)
  have HG := hid ((Gr.refl w p).below HS0.out)
  have WS := hid (show w.heap.size < (w.alloc (.cells #[.string ⟨#[]⟩, .string ⟨#[]⟩, .int .i64 0, .int .i64 0, .int .i64 0, .slice none 0 0] 26)).heap.size from by simp)
  have HT := hid (hT.next HS0.out)
  have hd : (deep : Int) ≤ 10000 := by omega
  have UH := hid hU
  have BH := hid hB
  obtain ⟨R, hR⟩ : ∃ R, unF U E deep (ws.drop k) o = R := ⟨_, rfl⟩
  have RX := hid (show R = if eqB (tw (ws.drop k)) ⟨#[45]⟩ = true then turnF U ⟨#[110, 101, 103]⟩ deep (ws.drop k) o else if eqB (tw (ws.drop k)) ⟨#[110, 111, 116]⟩ = true then turnF U ⟨#[110, 111, 116]⟩ deep (ws.drop k) o else primF E deep (ws.drop k) o from by rw [← hR]; rfl)
  rw [hR]
  clear h hT hB hR
  have IC := hid (is_any HP.out ⟨#[45]⟩)
  go_enter Tryd.func78, Tryd.ntmps78
  go_upto_region 1 with fail
  generalize World.alloc w _ = w1 at *
  cases y1 : eqB (tw (ws.drop k)) ⟨#[45]⟩
  · rw [y1] at IC
    go_upto_region 3 with (go_at_call 47; with_reducible refine Calls.mono IC.out ?_; rintro e w2 ⟨rfl, b3⟩; replace HP := hid (HP.out.next b3); replace HG := hid (HG.out.below b3); replace HB := hid (HB.out.next b3); replace WS := hid (Nat.lt_of_lt_of_le WS.out b3.size); replace HT := hid (HT.out.next b3); clear b3)
    replace IC := hid (is_any HP.out ⟨#[110, 111, 116]⟩)
    cases y2 : eqB (tw (ws.drop k)) ⟨#[110, 111, 116]⟩
    · rw [y2] at IC
      have RX' := hid (show R = primF E deep (ws.drop k) o from by rw [RX.out, if_neg (by rw [y1]; decide), if_neg (by rw [y2]; decide)])
      have RX'' := RX'.out
      subst RX''
      go_upto_region 5 with (go_at_call 47; with_reducible refine Calls.mono IC.out ?_; rintro e w3 ⟨rfl, b3⟩; have HP3 := hid (HP.out.next b3); have HG3 := hid (HG.out.below b3); have HB3 := hid (HB.out.next b3); have WS3 := hid (Nat.lt_of_lt_of_le WS.out b3.size); have HT3 := hid (HT.out.next b3); clear b3)
      have HC := hid (BH.out _ HP3.out HT3.out)
      go_wp2_with (go_at_call 88; with_reducible refine Calls.mono (HC.out) ?_; rintro e w5 h5; obtain ⟨g5, k', t, sa, sm, sc, ok, hk, hk2, hl, p5, rfl, hok, nv, ht⟩ := h5.parts; have HK2 := hid hk2; clear hk2; have HR5 := hid (HB3.out.gr g5 (by omega)); have HP5 := hid p5; have HG5 := hid (HG3.out.trans g5); have HN5 := hid nv; have HT5 := hid ht; have HL5 := hid hl; have HO5 := hid hok; clear h5 g5 p5 nv ht hl hok; obtain ⟨r0, r1, r2, r3, r4, r5, rz⟩ := HR5.out; have BF := hid (HR5.out.sets (.string t.op) (.string t.name) (.int .i64 (t.kind : Nat)) (.int .i64 t.n) (.int .i64 (t.pl : Nat)) (.slice sa sm sc)); have PF := hid (HP5.out.put6 (q := w.heap.size) (by omega) (by omega) (.string t.op) (.string t.name) (.int .i64 (t.kind : Nat)) (.int .i64 t.n) (.int .i64 (t.pl : Nat)) (.slice sa sm sc)); have GF := hid (HG5.out.put6 (q := w.heap.size) (by omega) (.string t.op) (.string t.name) (.int .i64 (t.kind : Nat)) (.int .i64 t.n) (.int .i64 (t.pl : Nat)) (.slice sa sm sc)); have NF := hid (HN5.out.put6w (q := w.heap.size) (m := w.heap.size) (by have := WS3.out; omega) (.string t.op) (.string t.name) (.int .i64 (t.kind : Nat)) (.int .i64 t.n) (.int .i64 (t.pl : Nat)) (.slice sa sm sc)))
      generalize World.setCell _ ⟨w.heap.size, 5, none⟩ _ = w6 at *
      obtain ⟨f0, f1, f2, f3, f4, f5, _⟩ := BF.out
      exact bodyPost_ret (v := .tuple #[.agg #[.string t.op, .string t.name, .int .i64 (t.kind : Nat), .int .i64 t.n, .int .i64 (t.pl : Nat), .slice sa sm sc], .bool ok]) (by simp [results, Tryd.results78, go_sem, f0, f1, f2, f3, f4, f5]) rfl (⟨GF.out, k', _, hk, fun e => HK2.out (by rw [← HO5.out]; exact e), HL5.out, PF.out, congrArg (fun x => Ending.returned (.tuple #[.agg #[.string t.op, .string t.name, .int .i64 (t.kind : Nat), .int .i64 t.n, .int .i64 (t.pl : Nat), .slice sa sm sc], .bool x])) HO5.out.symm, t, ⟨_, rfl, NF.out⟩, HT5.out⟩)
    · rw [y2] at IC
      have HM := hid (show k + 1 < ws.length from by
        obtain ⟨z, cz⟩ := HP.out.cur
        refine HP.out.more cz.at_ (Or.inr fun e => ?_)
        rw [cz.dr] at y2
        have y9 : eqB z.t ⟨#[110, 111, 116]⟩ = true := y2
        rw [e] at y9
        cases y9)
      have RX' := hid (show R = turnF U ⟨#[110, 111, 116]⟩ deep (ws.drop k) o from by rw [RX.out, if_neg (by rw [y1]; decide), if_pos y2])
      have RX'' := RX'.out
      subst RX''
      go_upto_region 4 with (go_at_call 47; with_reducible refine Calls.mono IC.out ?_; rintro e w3 ⟨rfl, b3⟩; have HP3 := hid (HP.out.next b3); have HG3 := hid (HG.out.below b3); have HB3 := hid (HB.out.next b3); have WS3 := hid (Nat.lt_of_lt_of_le WS.out b3.size); have HT3 := hid (HT.out.next b3); clear b3)
      have HC := hid (pturn_any ⟨#[110, 111, 116]⟩ deep UH.out HT3.out hN hD hg HM.out HP3.out)
      go_wp2_with (go_at_call 87; with_reducible refine Calls.mono (HC.out) ?_; rintro e w5 h5; obtain ⟨g5, k', t, sa, sm, sc, ok, hk, hk2, hl, p5, rfl, hok, nv, ht⟩ := h5.parts; have HK2 := hid hk2; clear hk2; have HR5 := hid (HB3.out.gr g5 (by omega)); have HP5 := hid p5; have HG5 := hid (HG3.out.trans g5); have HN5 := hid nv; have HT5 := hid ht; have HL5 := hid hl; have HO5 := hid hok; clear h5 g5 p5 nv ht hl hok; obtain ⟨r0, r1, r2, r3, r4, r5, rz⟩ := HR5.out; have BF := hid (HR5.out.sets (.string t.op) (.string t.name) (.int .i64 (t.kind : Nat)) (.int .i64 t.n) (.int .i64 (t.pl : Nat)) (.slice sa sm sc)); have PF := hid (HP5.out.put6 (q := w.heap.size) (by omega) (by omega) (.string t.op) (.string t.name) (.int .i64 (t.kind : Nat)) (.int .i64 t.n) (.int .i64 (t.pl : Nat)) (.slice sa sm sc)); have GF := hid (HG5.out.put6 (q := w.heap.size) (by omega) (.string t.op) (.string t.name) (.int .i64 (t.kind : Nat)) (.int .i64 t.n) (.int .i64 (t.pl : Nat)) (.slice sa sm sc)); have NF := hid (HN5.out.put6w (q := w.heap.size) (m := w.heap.size) (by have := WS3.out; omega) (.string t.op) (.string t.name) (.int .i64 (t.kind : Nat)) (.int .i64 t.n) (.int .i64 (t.pl : Nat)) (.slice sa sm sc)))
      generalize World.setCell _ ⟨w.heap.size, 5, none⟩ _ = w6 at *
      obtain ⟨f0, f1, f2, f3, f4, f5, _⟩ := BF.out
      exact bodyPost_ret (v := .tuple #[.agg #[.string t.op, .string t.name, .int .i64 (t.kind : Nat), .int .i64 t.n, .int .i64 (t.pl : Nat), .slice sa sm sc], .bool ok]) (by simp [results, Tryd.results78, go_sem, f0, f1, f2, f3, f4, f5]) rfl (⟨GF.out, k', _, hk, fun e => HK2.out (by rw [← HO5.out]; exact e), HL5.out, PF.out, congrArg (fun x => Ending.returned (.tuple #[.agg #[.string t.op, .string t.name, .int .i64 (t.kind : Nat), .int .i64 t.n, .int .i64 (t.pl : Nat), .slice sa sm sc], .bool x])) HO5.out.symm, t, ⟨_, rfl, NF.out⟩, HT5.out⟩)
  · rw [y1] at IC
    have HM := hid (show k + 1 < ws.length from by
      obtain ⟨z, cz⟩ := HP.out.cur
      refine HP.out.more cz.at_ (Or.inr fun e => ?_)
      rw [cz.dr] at y1
      have y9 : eqB z.t ⟨#[45]⟩ = true := y1
      rw [e] at y9
      cases y9)
    have RX' := hid (show R = turnF U ⟨#[110, 101, 103]⟩ deep (ws.drop k) o from by rw [RX.out, if_pos y1])
    have RX'' := RX'.out
    subst RX''
    go_upto_region 2 with (go_at_call 47; with_reducible refine Calls.mono IC.out ?_; rintro e w3 ⟨rfl, b3⟩; have HP3 := hid (HP.out.next b3); have HG3 := hid (HG.out.below b3); have HB3 := hid (HB.out.next b3); have WS3 := hid (Nat.lt_of_lt_of_le WS.out b3.size); have HT3 := hid (HT.out.next b3); clear b3)
    have HC := hid (pturn_any ⟨#[110, 101, 103]⟩ deep UH.out HT3.out hN hD hg HM.out HP3.out)
    go_wp2_with (go_at_call 87; with_reducible refine Calls.mono (HC.out) ?_; rintro e w5 h5; obtain ⟨g5, k', t, sa, sm, sc, ok, hk, hk2, hl, p5, rfl, hok, nv, ht⟩ := h5.parts; have HK2 := hid hk2; clear hk2; have HR5 := hid (HB3.out.gr g5 (by omega)); have HP5 := hid p5; have HG5 := hid (HG3.out.trans g5); have HN5 := hid nv; have HT5 := hid ht; have HL5 := hid hl; have HO5 := hid hok; clear h5 g5 p5 nv ht hl hok; obtain ⟨r0, r1, r2, r3, r4, r5, rz⟩ := HR5.out; have BF := hid (HR5.out.sets (.string t.op) (.string t.name) (.int .i64 (t.kind : Nat)) (.int .i64 t.n) (.int .i64 (t.pl : Nat)) (.slice sa sm sc)); have PF := hid (HP5.out.put6 (q := w.heap.size) (by omega) (by omega) (.string t.op) (.string t.name) (.int .i64 (t.kind : Nat)) (.int .i64 t.n) (.int .i64 (t.pl : Nat)) (.slice sa sm sc)); have GF := hid (HG5.out.put6 (q := w.heap.size) (by omega) (.string t.op) (.string t.name) (.int .i64 (t.kind : Nat)) (.int .i64 t.n) (.int .i64 (t.pl : Nat)) (.slice sa sm sc)); have NF := hid (HN5.out.put6w (q := w.heap.size) (m := w.heap.size) (by have := WS3.out; omega) (.string t.op) (.string t.name) (.int .i64 (t.kind : Nat)) (.int .i64 t.n) (.int .i64 (t.pl : Nat)) (.slice sa sm sc)))
    generalize World.setCell _ ⟨w.heap.size, 5, none⟩ _ = w6 at *
    obtain ⟨f0, f1, f2, f3, f4, f5, _⟩ := BF.out
    exact bodyPost_ret (v := .tuple #[.agg #[.string t.op, .string t.name, .int .i64 (t.kind : Nat), .int .i64 t.n, .int .i64 (t.pl : Nat), .slice sa sm sc], .bool ok]) (by simp [results, Tryd.results78, go_sem, f0, f1, f2, f3, f4, f5]) rfl (⟨GF.out, k', _, hk, fun e => HK2.out (by rw [← HO5.out]; exact e), HL5.out, PF.out, congrArg (fun x => Ending.returned (.tuple #[.agg #[.string t.op, .string t.name, .int .i64 (t.kind : Nat), .int .i64 t.n, .int .i64 (t.pl : Nat), .slice sa sm sc], .bool x])) HO5.out.symm, t, ⟨_, rfl, NF.out⟩, HT5.out⟩)

end Go.Proofs.YtobolipjgkabhaaDoor
