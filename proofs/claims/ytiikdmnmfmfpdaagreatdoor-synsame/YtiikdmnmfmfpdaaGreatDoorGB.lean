/- The walks over the parser's turned and unary. The walk over the parser's prim. The walk over the parser's expr. All of the parser's expressions. The walks over the parser's row, table and decl. The walks over the parser's decl and statute. The walk over the parser's statute. The walk over syn.Parse. -/
import Derived.Test.YtiikdmnmfmfpdaaGreatDoorSh
import Derived.BigQuiet
import Derived.Deep.RegionHeld3
import Derived.Test.YtiikdmnmfmfpdaaGreatDoorSk
import Derived.Deep.LoopGhost
import Derived.Test.YtiikdmnmfmfpdaaGreatDoorLd
namespace Go.Proofs.YtiikdmnmfmfpdaaGreatDoor
open Go.RowKit
set_option linter.unusedVariables false
set_option linter.unusedSimpArgs false

set_option maxRecDepth 100000 in
set_option maxHeartbeats 4000000 in
theorem pturn_any {w : World} {p b c : Nat} {ws : List Wo} {k : Nat} {o : Option Nat} (op : ByteArray) (deep : Nat) {U : Ex} {N : Nat} (hU : UC U N p b c ws) (hT : KT w) (hN : ws.length - k ≤ N) (hD : deep + (ws.length - k) ≤ 10000) (hg : 1 ≠ p) (hm : k + 1 < ws.length) (h : Ps w p b c ws k o) :
    Calls Tryz.prog 136 #[.pointer (some ⟨p, 0, none⟩), .string op, .int .i64 (deep : Nat)] w fun e w' => Rp w w' p b c ws k e (turnF U op deep (ws.drop k) o) := by
  have rp := h.pl
  have rb := h.bl
  have HB := hid (B6.new w 26 (.string ⟨#[]⟩) (.string ⟨#[]⟩) (.int .i64 0) (.int .i64 0) (.int .i64 0) (.slice none 0 0))
  have HS0 : Hid (Below w.heap.size w (w.alloc (.cells #[.string ⟨#[]⟩, .string ⟨#[]⟩, .int .i64 0, .int .i64 0, .int .i64 0, .slice none 0 0] 26))) := (Below.refl _ _).alloc (Nat.le_refl _) _
  have HP := hid (h.next HS0.out)
  have HG := hid ((Gr.refl w p).below HS0.out)
  have WS := hid (show w.heap.size < (w.alloc (.cells #[.string ⟨#[]⟩, .string ⟨#[]⟩, .int .i64 0, .int .i64 0, .int .i64 0, .slice none 0 0] 26)).heap.size from by simp)
  have HT := hid (hT.next HS0.out)
  have hd : (deep : Int) ≤ 10000 := by omega
  have UH := hid hU
  obtain ⟨x, cu⟩ := h.cur
  have XA := hid cu.at_
  have AX := hid (show aw (ws.drop k) = x.a from by rw [cu.dr]; rfl)
  obtain ⟨o2, ho2⟩ : ∃ o2, (if 40 < deep + 1 then passO o (ws.drop (k + 1)) else o) = o2 := ⟨_, rfl⟩
  obtain ⟨RK, hRK⟩ : ∃ RK, U (deep + 1) (ws.drop (k + 1)) o2 = RK := ⟨_, rfl⟩
  have RX := hid (show turnF U op deep (ws.drop k) o = turnR op x.a RK from by rw [turn_is, List.tail_drop, ho2, hRK, AX.out])
  obtain ⟨R, hR⟩ : ∃ R, turnF U op deep (ws.drop k) o = R := ⟨_, rfl⟩
  rw [hR] at RX ⊢
  have O2 := hid ho2
  have RKH := hid hRK
  have l1 : (k : Int) < (ws.length : Int) := by omega
  have l2 : ws.length ≤ 9000 := h.len
  have c0 := HP.out.c0
  have c1 := HP.out.c1
  have d3 := HP.out.w3 _ _ XA.out
  clear h hT hR ho2 hRK cu AX
  obtain ⟨xk, xt, xn, xa⟩ := x
  simp only at RX XA d3
  go_enter Tryz.func136, Tryz.ntmps136
  go_upto_region 1 with fail
  generalize World.alloc w _ = w1 at *
  go_quiet (fail)
  have BQ := hid (drewN_below w1 nq)
  replace HP := hid (HP.out.next BQ.out)
  replace HG := hid (HG.out.below BQ.out)
  replace HB := hid (HB.out.next BQ.out)
  replace WS := hid (Nat.lt_of_lt_of_le WS.out BQ.out.size)
  replace HT := hid (HT.out.next BQ.out)
  clear c0 c1 d3 BQ
  generalize w1.drewN nq = w2 at *
  have p1 := HP.out.c1
  have pz := HP.out.fz 1
  have HP3 := hid (HP.out.step hm)
  have HG3 := hid (HG.out.set (i := 1) (.int .i64 ((k : Int) + 1)))
  have HB3 := hid (HB.out.put (i := 1) (q := p) (by omega) (.int .i64 ((k : Int) + 1)))
  have WS3 := hid (show w.heap.size < (w2.setCell ⟨p, 1, none⟩ (.int .i64 ((k : Int) + 1))).heap.size from by simpa using WS.out)
  have HT3 := hid (HT.out.gr ((Gr.refl w2 p).set (i := 1) (.int .i64 ((k : Int) + 1))) hg)
  go_upto_region 3 with fail
  generalize World.setCell w2 _ _ = w3 at *
  clear p1 pz HP HG HB WS HT
  by_cases z : 40 < deep + 1
  · have z' : 40 < (deep : Int) + 1 := by omega
    have PA := hid (pass_any HP3.out)
    rw [show passO o (ws.drop (k + 1)) = o2 from by rw [← O2.out, if_pos z]] at PA
    go_upto_region 5 with (go_at_call 91; with_reducible refine Calls.mono PA.out ?_; rintro e w4 ⟨rfl, p4, g4⟩; replace HP3 := hid p4; replace HG3 := hid (HG3.out.trans g4); replace HB3 := hid (HB3.out.gr g4 (by omega)); replace WS3 := hid (Nat.lt_of_lt_of_le WS3.out g4.size); replace HT3 := hid (HT3.out.gr g4 hg); clear p4 g4)
    have HC := hid (show Calls Tryz.prog 127 #[.pointer (some ⟨p, 0, none⟩), .int .i64 ((deep : Int) + 1)] _ _ from by have := UH.out _ (k + 1) (deep + 1) _ HP3.out HT3.out (by omega) (by omega); rw [RKH.out] at this; exact this)
    obtain ⟨rt, rl, ro⟩ := RK
    go_upto_region 6 with (go_at_call 127; with_reducible refine Calls.mono (HC.out) ?_; rintro e w5 h5; obtain ⟨g5, k', t, sa, sm, sc, ok, hk, hk2, hl, p5, rfl, hok, nv, ht⟩ := h5.parts; have HK2 := hid hk2; clear hk2; have HR5 := hid (HB3.out.gr g5 (by omega)); have HP5 := hid p5; have HG5 := hid (HG3.out.trans g5); have HN5 := hid nv; have HT5 := hid ht; have HL5 := hid hl; have HO5 := hid hok; have GS5 := hid g5.size; clear h5 g5 p5 nv ht hl hok)
    have HS6 := hid (show Below w5.heap.size w5 (w5.alloc (.cells #[.string t.op, .string t.name, .int .i64 (t.kind : Nat), .int .i64 t.n, .int .i64 (t.pl : Nat), .slice sa sm sc] 26)) from (Below.refl _ _).alloc (Nat.le_refl _) _)
    have B6n := hid (B6.new w5 26 (.string t.op) (.string t.name) (.int .i64 (t.kind : Nat)) (.int .i64 t.n) (.int .i64 (t.pl : Nat)) (.slice sa sm sc))
    have HP6 := hid (HP5.out.next HS6.out)
    have HG6 := hid (HG5.out.below HS6.out)
    have HB6 := hid (HR5.out.next HS6.out)
    have HN6 := hid (HN5.out.next HS6.out)
    have WS6 := hid (show w.heap.size < w5.heap.size from Nat.lt_of_lt_of_le WS3.out GS5.out)
    generalize World.alloc w5 _ = w6 at *
    generalize w5.heap.size = gb at *
    obtain ⟨b0, b1, b2, b3, b4, b5, _⟩ := B6n.out
    have HS7 := hid (show Below w6.heap.size w6 (w6.alloc (.cells #[.string t.op, .string t.name, .int .i64 (t.kind : Nat), .int .i64 t.n, .int .i64 (t.pl : Nat), .slice sa sm sc] 26)) from (Below.refl _ _).alloc (Nat.le_refl _) _)
    have B7n := hid (B6.new w6 26 (.string t.op) (.string t.name) (.int .i64 (t.kind : Nat)) (.int .i64 t.n) (.int .i64 (t.pl : Nat)) (.slice sa sm sc))
    have WS7 := hid (show w.heap.size < w6.heap.size from by have := B6n.out.lt; have := WS6.out; omega)
    have BR7 := hid (HB6.out.next HS7.out)
    have NN7 := hid (Nd.one (c := 1) (S := fun g => w.heap.size + 1 ≤ g) (by have := WS7.out; omega) B7n.out.nc ((HN6.out.next HS7.out).weak (by have := WS3.out; omega)))
    obtain ⟨r0, r1, r2, r3, r4, r5, rz⟩ := BR7.out
    have BF := hid (BR7.out.sets (.string op) (.string ⟨#[]⟩) (.int .i64 0) (.int .i64 0) (.int .i64 (xa : Nat)) (.slice (some ⟨w6.heap.size, 0, none⟩) 1 1))
    have PF := hid ((HP6.out.next HS7.out).put6 (q := w.heap.size) (by omega) (by omega) (.string op) (.string ⟨#[]⟩) (.int .i64 0) (.int .i64 0) (.int .i64 (xa : Nat)) (.slice (some ⟨w6.heap.size, 0, none⟩) 1 1))
    have GF := hid ((HG6.out.below HS7.out).put6 (q := w.heap.size) (by omega) (.string op) (.string ⟨#[]⟩) (.int .i64 0) (.int .i64 0) (.int .i64 (xa : Nat)) (.slice (some ⟨w6.heap.size, 0, none⟩) 1 1))
    have NF := hid (NN7.out.put6w (q := w.heap.size) (m := w.heap.size) (by omega) (.string op) (.string ⟨#[]⟩) (.int .i64 0) (.int .i64 0) (.int .i64 (xa : Nat)) (.slice (some ⟨w6.heap.size, 0, none⟩) 1 1))
    go_wp2_with fail
    generalize World.setCell _ ⟨w.heap.size, 5, none⟩ _ = w9 at *
    obtain ⟨f0, f1, f2, f3, f4, f5, _⟩ := BF.out
    exact bodyPost_ret (v := .tuple #[.agg #[.string op, .string ⟨#[]⟩, .int .i64 0, .int .i64 0, .int .i64 (xa : Nat), .slice (some ⟨w6.heap.size, 0, none⟩) 1 1], .bool ok]) (by simp [results, Tryz.results136, go_sem, f0, f1, f2, f3, f4, f5]) rfl (by rw [RX.out]; exact ⟨GF.out, k', _, by omega, fun e => by omega, HL5.out, PF.out, congrArg (fun x => Ending.returned (.tuple #[.agg #[.string op, .string ⟨#[]⟩, .int .i64 0, .int .i64 0, .int .i64 (xa : Nat), .slice (some ⟨w6.heap.size, 0, none⟩) 1 1], .bool x])) (show ok = (Option.map _ rt).isSome from by rw [Option.isSome_map]; exact HO5.out.symm), .nd op ⟨#[]⟩ 0 0 xa [t], ⟨_, rfl, NF.out⟩, fun t' e => by
      obtain ⟨t0, e1, e2⟩ := Option.map_eq_some_iff.1 e
      rw [← e2, HT5.out t0 e1]⟩)
  · have z' : ¬ 40 < (deep : Int) + 1 := by omega
    have eo : o = o2 := by rw [← O2.out, if_neg z]
    subst eo
    go_upto_region 5 with fail
    have HC := hid (show Calls Tryz.prog 127 #[.pointer (some ⟨p, 0, none⟩), .int .i64 ((deep : Int) + 1)] _ _ from by have := UH.out _ (k + 1) (deep + 1) _ HP3.out HT3.out (by omega) (by omega); rw [RKH.out] at this; exact this)
    obtain ⟨rt, rl, ro⟩ := RK
    go_upto_region 6 with (go_at_call 127; with_reducible refine Calls.mono (HC.out) ?_; rintro e w5 h5; obtain ⟨g5, k', t, sa, sm, sc, ok, hk, hk2, hl, p5, rfl, hok, nv, ht⟩ := h5.parts; have HK2 := hid hk2; clear hk2; have HR5 := hid (HB3.out.gr g5 (by omega)); have HP5 := hid p5; have HG5 := hid (HG3.out.trans g5); have HN5 := hid nv; have HT5 := hid ht; have HL5 := hid hl; have HO5 := hid hok; have GS5 := hid g5.size; clear h5 g5 p5 nv ht hl hok)
    have HS6 := hid (show Below w5.heap.size w5 (w5.alloc (.cells #[.string t.op, .string t.name, .int .i64 (t.kind : Nat), .int .i64 t.n, .int .i64 (t.pl : Nat), .slice sa sm sc] 26)) from (Below.refl _ _).alloc (Nat.le_refl _) _)
    have B6n := hid (B6.new w5 26 (.string t.op) (.string t.name) (.int .i64 (t.kind : Nat)) (.int .i64 t.n) (.int .i64 (t.pl : Nat)) (.slice sa sm sc))
    have HP6 := hid (HP5.out.next HS6.out)
    have HG6 := hid (HG5.out.below HS6.out)
    have HB6 := hid (HR5.out.next HS6.out)
    have HN6 := hid (HN5.out.next HS6.out)
    have WS6 := hid (show w.heap.size < w5.heap.size from Nat.lt_of_lt_of_le WS3.out GS5.out)
    generalize World.alloc w5 _ = w6 at *
    generalize w5.heap.size = gb at *
    obtain ⟨b0, b1, b2, b3, b4, b5, _⟩ := B6n.out
    have HS7 := hid (show Below w6.heap.size w6 (w6.alloc (.cells #[.string t.op, .string t.name, .int .i64 (t.kind : Nat), .int .i64 t.n, .int .i64 (t.pl : Nat), .slice sa sm sc] 26)) from (Below.refl _ _).alloc (Nat.le_refl _) _)
    have B7n := hid (B6.new w6 26 (.string t.op) (.string t.name) (.int .i64 (t.kind : Nat)) (.int .i64 t.n) (.int .i64 (t.pl : Nat)) (.slice sa sm sc))
    have WS7 := hid (show w.heap.size < w6.heap.size from by have := B6n.out.lt; have := WS6.out; omega)
    have BR7 := hid (HB6.out.next HS7.out)
    have NN7 := hid (Nd.one (c := 1) (S := fun g => w.heap.size + 1 ≤ g) (by have := WS7.out; omega) B7n.out.nc ((HN6.out.next HS7.out).weak (by have := WS3.out; omega)))
    obtain ⟨r0, r1, r2, r3, r4, r5, rz⟩ := BR7.out
    have BF := hid (BR7.out.sets (.string op) (.string ⟨#[]⟩) (.int .i64 0) (.int .i64 0) (.int .i64 (xa : Nat)) (.slice (some ⟨w6.heap.size, 0, none⟩) 1 1))
    have PF := hid ((HP6.out.next HS7.out).put6 (q := w.heap.size) (by omega) (by omega) (.string op) (.string ⟨#[]⟩) (.int .i64 0) (.int .i64 0) (.int .i64 (xa : Nat)) (.slice (some ⟨w6.heap.size, 0, none⟩) 1 1))
    have GF := hid ((HG6.out.below HS7.out).put6 (q := w.heap.size) (by omega) (.string op) (.string ⟨#[]⟩) (.int .i64 0) (.int .i64 0) (.int .i64 (xa : Nat)) (.slice (some ⟨w6.heap.size, 0, none⟩) 1 1))
    have NF := hid (NN7.out.put6w (q := w.heap.size) (m := w.heap.size) (by omega) (.string op) (.string ⟨#[]⟩) (.int .i64 0) (.int .i64 0) (.int .i64 (xa : Nat)) (.slice (some ⟨w6.heap.size, 0, none⟩) 1 1))
    go_wp2_with fail
    generalize World.setCell _ ⟨w.heap.size, 5, none⟩ _ = w9 at *
    obtain ⟨f0, f1, f2, f3, f4, f5, _⟩ := BF.out
    exact bodyPost_ret (v := .tuple #[.agg #[.string op, .string ⟨#[]⟩, .int .i64 0, .int .i64 0, .int .i64 (xa : Nat), .slice (some ⟨w6.heap.size, 0, none⟩) 1 1], .bool ok]) (by simp [results, Tryz.results136, go_sem, f0, f1, f2, f3, f4, f5]) rfl (by rw [RX.out]; exact ⟨GF.out, k', _, by omega, fun e => by omega, HL5.out, PF.out, congrArg (fun x => Ending.returned (.tuple #[.agg #[.string op, .string ⟨#[]⟩, .int .i64 0, .int .i64 0, .int .i64 (xa : Nat), .slice (some ⟨w6.heap.size, 0, none⟩) 1 1], .bool x])) (show ok = (Option.map _ rt).isSome from by rw [Option.isSome_map]; exact HO5.out.symm), .nd op ⟨#[]⟩ 0 0 xa [t], ⟨_, rfl, NF.out⟩, fun t' e => by
      obtain ⟨t0, e1, e2⟩ := Option.map_eq_some_iff.1 e
      rw [← e2, HT5.out t0 e1]⟩)

set_option maxRecDepth 100000 in
set_option maxHeartbeats 4000000 in
theorem punary_any {w : World} {p b c : Nat} {ws : List Wo} {k : Nat} {o : Option Nat} (deep : Nat) {U E : Ex} {N : Nat} (hU : UC U N p b c ws) (hT : KT w) (hN : ws.length - k ≤ N) (hD : deep + (ws.length - k) ≤ 10000) (hg : 1 ≠ p)
    (hB : ∀ (w : World), Ps w p b c ws k o → KT w → Calls Tryz.prog 137 #[.pointer (some ⟨p, 0, none⟩), .int .i64 (deep : Nat)] w fun e w' => Rp w w' p b c ws k e (primF E deep (ws.drop k) o)) (h : Ps w p b c ws k o) :
    Calls Tryz.prog 127 #[.pointer (some ⟨p, 0, none⟩), .int .i64 (deep : Nat)] w fun e w' => Rp w w' p b c ws k e (unF U E deep (ws.drop k) o) := by
  have rp := h.pl
  have rb := h.bl
  have HB := hid (B6.new w 26 (.string ⟨#[]⟩) (.string ⟨#[]⟩) (.int .i64 0) (.int .i64 0) (.int .i64 0) (.slice none 0 0))
  have HS0 : Hid (Below w.heap.size w (w.alloc (.cells #[.string ⟨#[]⟩, .string ⟨#[]⟩, .int .i64 0, .int .i64 0, .int .i64 0, .slice none 0 0] 26))) := (Below.refl _ _).alloc (Nat.le_refl _) _
  have HP := hid (h.next HS0.out)
  have HG := hid ((Gr.refl w p).below HS0.out)
  have WS := hid (show w.heap.size < (w.alloc (.cells #[.string ⟨#[]⟩, .string ⟨#[]⟩, .int .i64 0, .int .i64 0, .int .i64 0, .slice none 0 0] 26)).heap.size from by simp)
  have HT := hid (hT.next HS0.out)
  have hd : (deep : Int) ≤ 10000 := by omega
  have UH := hid hU
  have BH := hid hB
  obtain ⟨R, hR⟩ : ∃ R, unF U E deep (ws.drop k) o = R := ⟨_, rfl⟩
  have RX := hid (show R = if eqB (tw (ws.drop k)) ⟨#[45]⟩ = true then turnF U ⟨#[110, 101, 103]⟩ deep (ws.drop k) o else if eqB (tw (ws.drop k)) ⟨#[110, 111, 116]⟩ = true then turnF U ⟨#[110, 111, 116]⟩ deep (ws.drop k) o else primF E deep (ws.drop k) o from by rw [← hR]; rfl)
  rw [hR]
  clear h hT hB hR
  have IC := hid (is_any HP.out ⟨#[45]⟩)
  go_enter Tryz.func127, Tryz.ntmps127
  go_upto_region 1 with fail
  generalize World.alloc w _ = w1 at *
  cases y1 : eqB (tw (ws.drop k)) ⟨#[45]⟩
  · rw [y1] at IC
    go_upto_region 3 with (go_at_call 90; with_reducible refine Calls.mono IC.out ?_; rintro e w2 ⟨rfl, b3⟩; replace HP := hid (HP.out.next b3); replace HG := hid (HG.out.below b3); replace HB := hid (HB.out.next b3); replace WS := hid (Nat.lt_of_lt_of_le WS.out b3.size); replace HT := hid (HT.out.next b3); clear b3)
    replace IC := hid (is_any HP.out ⟨#[110, 111, 116]⟩)
    cases y2 : eqB (tw (ws.drop k)) ⟨#[110, 111, 116]⟩
    · rw [y2] at IC
      have RX' := hid (show R = primF E deep (ws.drop k) o from by rw [RX.out, if_neg (by rw [y1]; decide), if_neg (by rw [y2]; decide)])
      have RX'' := RX'.out
      subst RX''
      go_upto_region 5 with (go_at_call 90; with_reducible refine Calls.mono IC.out ?_; rintro e w3 ⟨rfl, b3⟩; have HP3 := hid (HP.out.next b3); have HG3 := hid (HG.out.below b3); have HB3 := hid (HB.out.next b3); have WS3 := hid (Nat.lt_of_lt_of_le WS.out b3.size); have HT3 := hid (HT.out.next b3); clear b3)
      have HC := hid (BH.out _ HP3.out HT3.out)
      go_wp2_with (go_at_call 137; with_reducible refine Calls.mono (HC.out) ?_; rintro e w5 h5; obtain ⟨g5, k', t, sa, sm, sc, ok, hk, hk2, hl, p5, rfl, hok, nv, ht⟩ := h5.parts; have HK2 := hid hk2; clear hk2; have HR5 := hid (HB3.out.gr g5 (by omega)); have HP5 := hid p5; have HG5 := hid (HG3.out.trans g5); have HN5 := hid nv; have HT5 := hid ht; have HL5 := hid hl; have HO5 := hid hok; clear h5 g5 p5 nv ht hl hok; obtain ⟨r0, r1, r2, r3, r4, r5, rz⟩ := HR5.out; have BF := hid (HR5.out.sets (.string t.op) (.string t.name) (.int .i64 (t.kind : Nat)) (.int .i64 t.n) (.int .i64 (t.pl : Nat)) (.slice sa sm sc)); have PF := hid (HP5.out.put6 (q := w.heap.size) (by omega) (by omega) (.string t.op) (.string t.name) (.int .i64 (t.kind : Nat)) (.int .i64 t.n) (.int .i64 (t.pl : Nat)) (.slice sa sm sc)); have GF := hid (HG5.out.put6 (q := w.heap.size) (by omega) (.string t.op) (.string t.name) (.int .i64 (t.kind : Nat)) (.int .i64 t.n) (.int .i64 (t.pl : Nat)) (.slice sa sm sc)); have NF := hid (HN5.out.put6w (q := w.heap.size) (m := w.heap.size) (by have := WS3.out; omega) (.string t.op) (.string t.name) (.int .i64 (t.kind : Nat)) (.int .i64 t.n) (.int .i64 (t.pl : Nat)) (.slice sa sm sc)))
      generalize World.setCell _ ⟨w.heap.size, 5, none⟩ _ = w6 at *
      obtain ⟨f0, f1, f2, f3, f4, f5, _⟩ := BF.out
      exact bodyPost_ret (v := .tuple #[.agg #[.string t.op, .string t.name, .int .i64 (t.kind : Nat), .int .i64 t.n, .int .i64 (t.pl : Nat), .slice sa sm sc], .bool ok]) (by simp [results, Tryz.results127, go_sem, f0, f1, f2, f3, f4, f5]) rfl (⟨GF.out, k', _, hk, fun e => HK2.out (by rw [← HO5.out]; exact e), HL5.out, PF.out, congrArg (fun x => Ending.returned (.tuple #[.agg #[.string t.op, .string t.name, .int .i64 (t.kind : Nat), .int .i64 t.n, .int .i64 (t.pl : Nat), .slice sa sm sc], .bool x])) HO5.out.symm, t, ⟨_, rfl, NF.out⟩, HT5.out⟩)
    · rw [y2] at IC
      have HM := hid (show k + 1 < ws.length from by
        obtain ⟨z, cz⟩ := HP.out.cur
        refine HP.out.more cz.at_ (Or.inr fun e => ?_)
        rw [cz.dr] at y2
        have y9 : eqB z.t ⟨#[110, 111, 116]⟩ = true := y2
        rw [e] at y9
        cases y9)
      have RX' := hid (show R = turnF U ⟨#[110, 111, 116]⟩ deep (ws.drop k) o from by rw [RX.out, if_neg (by rw [y1]; decide), if_pos y2])
      have RX'' := RX'.out
      subst RX''
      go_upto_region 4 with (go_at_call 90; with_reducible refine Calls.mono IC.out ?_; rintro e w3 ⟨rfl, b3⟩; have HP3 := hid (HP.out.next b3); have HG3 := hid (HG.out.below b3); have HB3 := hid (HB.out.next b3); have WS3 := hid (Nat.lt_of_lt_of_le WS.out b3.size); have HT3 := hid (HT.out.next b3); clear b3)
      have HC := hid (pturn_any ⟨#[110, 111, 116]⟩ deep UH.out HT3.out hN hD hg HM.out HP3.out)
      go_wp2_with (go_at_call 136; with_reducible refine Calls.mono (HC.out) ?_; rintro e w5 h5; obtain ⟨g5, k', t, sa, sm, sc, ok, hk, hk2, hl, p5, rfl, hok, nv, ht⟩ := h5.parts; have HK2 := hid hk2; clear hk2; have HR5 := hid (HB3.out.gr g5 (by omega)); have HP5 := hid p5; have HG5 := hid (HG3.out.trans g5); have HN5 := hid nv; have HT5 := hid ht; have HL5 := hid hl; have HO5 := hid hok; clear h5 g5 p5 nv ht hl hok; obtain ⟨r0, r1, r2, r3, r4, r5, rz⟩ := HR5.out; have BF := hid (HR5.out.sets (.string t.op) (.string t.name) (.int .i64 (t.kind : Nat)) (.int .i64 t.n) (.int .i64 (t.pl : Nat)) (.slice sa sm sc)); have PF := hid (HP5.out.put6 (q := w.heap.size) (by omega) (by omega) (.string t.op) (.string t.name) (.int .i64 (t.kind : Nat)) (.int .i64 t.n) (.int .i64 (t.pl : Nat)) (.slice sa sm sc)); have GF := hid (HG5.out.put6 (q := w.heap.size) (by omega) (.string t.op) (.string t.name) (.int .i64 (t.kind : Nat)) (.int .i64 t.n) (.int .i64 (t.pl : Nat)) (.slice sa sm sc)); have NF := hid (HN5.out.put6w (q := w.heap.size) (m := w.heap.size) (by have := WS3.out; omega) (.string t.op) (.string t.name) (.int .i64 (t.kind : Nat)) (.int .i64 t.n) (.int .i64 (t.pl : Nat)) (.slice sa sm sc)))
      generalize World.setCell _ ⟨w.heap.size, 5, none⟩ _ = w6 at *
      obtain ⟨f0, f1, f2, f3, f4, f5, _⟩ := BF.out
      exact bodyPost_ret (v := .tuple #[.agg #[.string t.op, .string t.name, .int .i64 (t.kind : Nat), .int .i64 t.n, .int .i64 (t.pl : Nat), .slice sa sm sc], .bool ok]) (by simp [results, Tryz.results127, go_sem, f0, f1, f2, f3, f4, f5]) rfl (⟨GF.out, k', _, hk, fun e => HK2.out (by rw [← HO5.out]; exact e), HL5.out, PF.out, congrArg (fun x => Ending.returned (.tuple #[.agg #[.string t.op, .string t.name, .int .i64 (t.kind : Nat), .int .i64 t.n, .int .i64 (t.pl : Nat), .slice sa sm sc], .bool x])) HO5.out.symm, t, ⟨_, rfl, NF.out⟩, HT5.out⟩)
  · rw [y1] at IC
    have HM := hid (show k + 1 < ws.length from by
      obtain ⟨z, cz⟩ := HP.out.cur
      refine HP.out.more cz.at_ (Or.inr fun e => ?_)
      rw [cz.dr] at y1
      have y9 : eqB z.t ⟨#[45]⟩ = true := y1
      rw [e] at y9
      cases y9)
    have RX' := hid (show R = turnF U ⟨#[110, 101, 103]⟩ deep (ws.drop k) o from by rw [RX.out, if_pos y1])
    have RX'' := RX'.out
    subst RX''
    go_upto_region 2 with (go_at_call 90; with_reducible refine Calls.mono IC.out ?_; rintro e w3 ⟨rfl, b3⟩; have HP3 := hid (HP.out.next b3); have HG3 := hid (HG.out.below b3); have HB3 := hid (HB.out.next b3); have WS3 := hid (Nat.lt_of_lt_of_le WS.out b3.size); have HT3 := hid (HT.out.next b3); clear b3)
    have HC := hid (pturn_any ⟨#[110, 101, 103]⟩ deep UH.out HT3.out hN hD hg HM.out HP3.out)
    go_wp2_with (go_at_call 136; with_reducible refine Calls.mono (HC.out) ?_; rintro e w5 h5; obtain ⟨g5, k', t, sa, sm, sc, ok, hk, hk2, hl, p5, rfl, hok, nv, ht⟩ := h5.parts; have HK2 := hid hk2; clear hk2; have HR5 := hid (HB3.out.gr g5 (by omega)); have HP5 := hid p5; have HG5 := hid (HG3.out.trans g5); have HN5 := hid nv; have HT5 := hid ht; have HL5 := hid hl; have HO5 := hid hok; clear h5 g5 p5 nv ht hl hok; obtain ⟨r0, r1, r2, r3, r4, r5, rz⟩ := HR5.out; have BF := hid (HR5.out.sets (.string t.op) (.string t.name) (.int .i64 (t.kind : Nat)) (.int .i64 t.n) (.int .i64 (t.pl : Nat)) (.slice sa sm sc)); have PF := hid (HP5.out.put6 (q := w.heap.size) (by omega) (by omega) (.string t.op) (.string t.name) (.int .i64 (t.kind : Nat)) (.int .i64 t.n) (.int .i64 (t.pl : Nat)) (.slice sa sm sc)); have GF := hid (HG5.out.put6 (q := w.heap.size) (by omega) (.string t.op) (.string t.name) (.int .i64 (t.kind : Nat)) (.int .i64 t.n) (.int .i64 (t.pl : Nat)) (.slice sa sm sc)); have NF := hid (HN5.out.put6w (q := w.heap.size) (m := w.heap.size) (by have := WS3.out; omega) (.string t.op) (.string t.name) (.int .i64 (t.kind : Nat)) (.int .i64 t.n) (.int .i64 (t.pl : Nat)) (.slice sa sm sc)))
    generalize World.setCell _ ⟨w.heap.size, 5, none⟩ _ = w6 at *
    obtain ⟨f0, f1, f2, f3, f4, f5, _⟩ := BF.out
    exact bodyPost_ret (v := .tuple #[.agg #[.string t.op, .string t.name, .int .i64 (t.kind : Nat), .int .i64 t.n, .int .i64 (t.pl : Nat), .slice sa sm sc], .bool ok]) (by simp [results, Tryz.results127, go_sem, f0, f1, f2, f3, f4, f5]) rfl (⟨GF.out, k', _, hk, fun e => HK2.out (by rw [← HO5.out]; exact e), HL5.out, PF.out, congrArg (fun x => Ending.returned (.tuple #[.agg #[.string t.op, .string t.name, .int .i64 (t.kind : Nat), .int .i64 t.n, .int .i64 (t.pl : Nat), .slice sa sm sc], .bool x])) HO5.out.symm, t, ⟨_, rfl, NF.out⟩, HT5.out⟩)

end Go.Proofs.YtiikdmnmfmfpdaaGreatDoor

namespace Go.Proofs.YtiikdmnmfmfpdaaGreatDoor
open Go.RowKit
set_option linter.unusedVariables false
set_option linter.unusedSimpArgs false

theorem Nd.uncons {w : World} {S : Nat → Prop} {v : Value} {t : Tr} (h : Nd w S v [t]) : ∃ (g c : Nat) (sl : Value), v = .slice (some ⟨g, 0, none⟩) 1 c ∧ (NC w g 0 t sl ∧ S g) ∧ Nd w S sl t.kids := by
  cases h with
  | row g c ts sl hs h0 hc hk => exact ⟨g, c, sl 0, rfl, ⟨by simpa using hc 0 t rfl, hs⟩, hk 0 t rfl⟩
theorem open_kids {E : Ex} {deep : Nat} {l : List Wo} {o : Option Nat} {x : ByteArray} {a : Nat} {n : Tr} (h : (formF E deep [⟨#[40]⟩, ⟨#[69, 88, 80, 82]⟩, ⟨#[41]⟩] (op0 x a) l o).t = some n) : ∃ t, n.kids = [t] := by
  have e : formF E deep [⟨#[40]⟩, ⟨#[69, 88, 80, 82]⟩, ⟨#[41]⟩] (op0 x a) l o = if eqB (tw l) ⟨#[40]⟩ then kidR E deep [⟨#[41]⟩] (op0 x a) (E (deep + 1) l.tail o) else ⟨none, l, o⟩ := by
    rw [← formF_expr]
    simp only [formF]
    rw [if_neg (by decide), if_neg (by decide), if_neg (by decide), if_neg (by decide)]
    rfl
  rw [e] at h
  split at h
  · generalize E (deep + 1) l.tail o = r at h
    obtain ⟨t, l', o'⟩ := r
    cases t with
    | none => cases h
    | some t =>
      have h : (formF E deep [⟨#[41]⟩] ((op0 x a).add t) l' o').t = some n := h
      simp only [formF] at h
      rw [if_neg (by decide), if_neg (by decide), if_neg (by decide), if_neg (by decide)] at h
      split at h
      · injection h with h
        subst h
        exact ⟨t, rfl⟩
      · cases h
  · cases h
set_option maxRecDepth 100000 in
set_option maxHeartbeats 8000000 in
theorem pprim_any {w : World} {p b c : Nat} {ws : List Wo} {k : Nat} {o : Option Nat} (deep : Nat) {E : Ex} {N : Nat} (hE : EC E N p b c ws) (hT : KT w) (hN : ws.length - k ≤ N) (hD : deep + (ws.length - k) ≤ 10000) (hg : 1 ≠ p) (h : Ps w p b c ws k o) :
    Calls Tryz.prog 137 #[.pointer (some ⟨p, 0, none⟩), .int .i64 (deep : Nat)] w fun e w' => Rp w w' p b c ws k e (primF E deep (ws.drop k) o) := by
  have rp := h.pl
  have rb := h.bl
  have HB := hid (B6.new w 26 (.string ⟨#[]⟩) (.string ⟨#[]⟩) (.int .i64 0) (.int .i64 0) (.int .i64 0) (.slice none 0 0))
  have HS0 : Hid (Below w.heap.size w (w.alloc (.cells #[.string ⟨#[]⟩, .string ⟨#[]⟩, .int .i64 0, .int .i64 0, .int .i64 0, .slice none 0 0] 26))) := (Below.refl _ _).alloc (Nat.le_refl _) _
  have HP := hid (h.next HS0.out)
  have HG := hid ((Gr.refl w p).below HS0.out)
  have WS := hid (show w.heap.size < (w.alloc (.cells #[.string ⟨#[]⟩, .string ⟨#[]⟩, .int .i64 0, .int .i64 0, .int .i64 0, .slice none 0 0] 26)).heap.size from by simp)
  have HT := hid (hT.next HS0.out)
  have hd : (deep : Int) ≤ 10000 := by omega
  obtain ⟨x, cu⟩ := h.cur
  have XA := hid cu.at_
  have HM := hid (fun q => h.more cu.at_ q)
  obtain ⟨R, hR⟩ : ∃ R, primF E deep (ws.drop k) o = R := ⟨_, rfl⟩
  have KX := hid (show kw (ws.drop k) = x.k from by rw [cu.dr]; rfl)
  have TX := hid (show tw (ws.drop k) = x.t from by rw [cu.dr]; rfl)
  have AX := hid (show aw (ws.drop k) = x.a from by rw [cu.dr]; rfl)
  have RX := hid (show R = if x.k = 1 then ⟨some (.nd ⟨#[110, 97, 109, 101]⟩ x.t 0 0 (aw (ws.drop k)) []), ws.drop (k + 1), o⟩
    else if eqB x.t ⟨#[40]⟩ = true then kidF (formF E deep [⟨#[40]⟩, ⟨#[69, 88, 80, 82]⟩, ⟨#[41]⟩] (op0 ⟨#[]⟩ (aw (ws.drop k))) (ws.drop k) o)
    else if (eqB x.t ⟨#[109, 105, 110]⟩ || eqB x.t ⟨#[109, 97, 120]⟩) = true then formF E deep [x.t, ⟨#[40]⟩, ⟨#[69, 88, 80, 82]⟩, ⟨#[44]⟩, ⟨#[69, 88, 80, 82]⟩, ⟨#[41]⟩] (op0 x.t (aw (ws.drop k))) (ws.drop k) o
    else if eqB x.t ⟨#[108, 101, 110]⟩ = true then formF E deep [⟨#[108, 101, 110]⟩, ⟨#[40]⟩, ⟨#[69, 88, 80, 82]⟩, ⟨#[41]⟩] (op0 ⟨#[108, 101, 110]⟩ (aw (ws.drop k))) (ws.drop k) o
    else if eqB x.t ⟨#[97, 116]⟩ = true then formF E deep [⟨#[97, 116]⟩, ⟨#[40]⟩, ⟨#[78, 65, 77, 69]⟩, ⟨#[44]⟩, ⟨#[69, 88, 80, 82]⟩, ⟨#[41]⟩] (op0 ⟨#[97, 116]⟩ (aw (ws.drop k))) (ws.drop k) o
    else if eqB x.t ⟨#[115, 117, 109]⟩ = true then formF E deep [⟨#[115, 117, 109]⟩, ⟨#[40]⟩, ⟨#[78, 65, 77, 69]⟩, ⟨#[105, 110]⟩, ⟨#[69, 88, 80, 82]⟩, ⟨#[58]⟩, ⟨#[69, 88, 80, 82]⟩, ⟨#[41]⟩] (op0 ⟨#[115, 117, 109]⟩ (aw (ws.drop k))) (ws.drop k) o
    else litR (ws.drop k) o from by rw [← hR, ← KX.out, ← TX.out, ← List.tail_drop]; rfl)
  rw [hR]
  have l1 : (k : Int) < (ws.length : Int) := by have := h.lt; omega
  have l2 : ws.length ≤ 9000 := h.len
  have lk : (k : Int) ≤ 9000 := by omega
  have c0 := HP.out.c0
  have c1 := HP.out.c1
  have d0 := HP.out.w0 _ _ XA.out
  have d1 := HP.out.w1 _ _ XA.out
  have d2 := HP.out.w2 _ _ XA.out
  have d3 := HP.out.w3 _ _ XA.out
  clear h hT hR cu KX TX
  obtain ⟨xk, xt, xn, xa⟩ := x
  simp only at RX XA d0 d1 d2 d3 HM AX
  go_enter Tryz.func137, Tryz.ntmps137
  go_upto_region 1 with fail
  generalize World.alloc w _ = w1 at *
  refine wp_region_held_drew (S := (fun W => W.cell? ⟨p, 0, none⟩ = some (.slice (some ⟨b, 0, none⟩) ws.length c) ∧ W.cell? ⟨p, 1, none⟩ = some (.int .i64 (k : Nat)) ∧ W.cell? ⟨b, k * 4, none⟩ = some (.int .i64 (xk : Nat)) ∧ W.cell? ⟨b, k * 4 + 1, none⟩ = some (.string xt) ∧ W.cell? ⟨b, k * 4 + 2, none⟩ = some (.int .i64 (xn : Nat)) ∧ W.cell? ⟨b, k * 4 + 3, none⟩ = some (.int .i64 (xa : Nat)))) (by kernel_rfl) ⟨c0, c1, d0, d1, d2, d3⟩ (fun hHeld => ?_)
  have HP0 := hid (show Ps w1.drew p b c ws k o from HP.out.next (Below.refl _ _).drew)
  have HG0 := hid (show Gr w w1.drew p from HG.out.drew)
  clear HP HG
  have HBz := hid (HB.out.next (Below.refl w1.heap.size w1).drew)
  clear HB
  have HTz := hid (HT.out.next (Below.refl w1.heap.size w1).drew)
  clear HT
  replace WS := hid (show w.heap.size < w1.drew.heap.size from WS.out)
  generalize w1.drew = wz at *
  refine take2 rfl (i := 0) (v := .pointer (some ⟨p, 0, none⟩)) (d := 9) rfl rfl (by kernel_rfl) (by kernel_rfl) (by kernel_rfl) (fun _ _ _ h => h) (Or.inl ⟨by rfl, ?_⟩) hHeld ?_
  · (intro W hW; (try dsimp only at hW); go_simp)
  try simp only [Act.put, List.setIfInBounds_toArray, List.set_cons_zero, List.set_cons_succ]
  refine take2 rfl (i := 1) (v := .pointer (some ⟨p, 0, none⟩)) (d := 10) rfl rfl (by kernel_rfl) (by kernel_rfl) (by kernel_rfl) (fun _ _ _ h => h) (Or.inl ⟨by rfl, ?_⟩) hHeld ?_
  · (intro W hW; (try dsimp only at hW); go_simp)
  try simp only [Act.put, List.setIfInBounds_toArray, List.set_cons_zero, List.set_cons_succ]
  refine take2 rfl (i := 2) (v := .pointer (some ⟨p, 0, none⟩)) (d := 11) rfl rfl (by kernel_rfl) (by kernel_rfl) (by kernel_rfl) (fun _ _ _ h => h) (Or.inl ⟨by rfl, ?_⟩) hHeld ?_
  · (intro W hW; (try dsimp only at hW); go_simp)
  try simp only [Act.put, List.setIfInBounds_toArray, List.set_cons_zero, List.set_cons_succ]
  refine take2 rfl (i := 3) (v := .slice (some ⟨b, 0, none⟩) ws.length c) (d := 12) rfl rfl (by kernel_rfl) (by kernel_rfl) (by kernel_rfl) (fun _ _ _ h => h) (Or.inl ⟨by rfl, ?_⟩) hHeld ?_
  · (intro W hW; (try dsimp only at hW); go_simp)
  try simp only [Act.put, List.setIfInBounds_toArray, List.set_cons_zero, List.set_cons_succ]
  refine take2 rfl (i := 4) (v := .pointer (some ⟨p, 0, none⟩)) (d := 13) rfl rfl (by kernel_rfl) (by kernel_rfl) (by kernel_rfl) (fun _ _ _ h => h) (Or.inl ⟨by rfl, ?_⟩) hHeld ?_
  · (intro W hW; (try dsimp only at hW); go_simp)
  try simp only [Act.put, List.setIfInBounds_toArray, List.set_cons_zero, List.set_cons_succ]
  refine take2 rfl (i := 5) (v := .pointer (some ⟨p, 0, none⟩)) (d := 14) rfl rfl (by kernel_rfl) (by kernel_rfl) (by kernel_rfl) (fun _ _ _ h => h) (Or.inl ⟨by rfl, ?_⟩) hHeld ?_
  · (intro W hW; (try dsimp only at hW); go_simp)
  try simp only [Act.put, List.setIfInBounds_toArray, List.set_cons_zero, List.set_cons_succ]
  refine take2 rfl (i := 6) (v := .pointer (some ⟨p, 1, none⟩)) (d := 15) rfl rfl (by kernel_rfl) (by kernel_rfl) (by kernel_rfl) (fun _ _ _ h => h) (Or.inl ⟨by rfl, ?_⟩) hHeld ?_
  · (intro W hW; (try dsimp only at hW); go_simp)
  try simp only [Act.put, List.setIfInBounds_toArray, List.set_cons_zero, List.set_cons_succ]
  refine take2 rfl (i := 7) (v := .int .i64 (k : Nat)) (d := 16) rfl rfl (by kernel_rfl) (by kernel_rfl) (by kernel_rfl) (fun _ _ _ h => h) (Or.inl ⟨by rfl, ?_⟩) hHeld ?_
  · (intro W hW; (try dsimp only at hW); go_simp)
  try simp only [Act.put, List.setIfInBounds_toArray, List.set_cons_zero, List.set_cons_succ]
  refine take2 rfl (i := 8) (v := .pointer (some ⟨b, k * 4, none⟩)) (d := 17) rfl rfl (by kernel_rfl) (by kernel_rfl) (by kernel_rfl) (fun _ _ _ h => h) (Or.inl ⟨by rfl, ?_⟩) hHeld ?_
  · (intro W hW; (try dsimp only at hW); go_simp)
  try simp only [Act.put, List.setIfInBounds_toArray, List.set_cons_zero, List.set_cons_succ]
  refine take2 rfl (i := 9) (v := .agg #[.int .i64 (xk : Nat), .string xt, .int .i64 (xn : Nat), .int .i64 (xa : Nat)]) (d := 18) rfl rfl (by kernel_rfl) (by kernel_rfl) (by kernel_rfl) (fun _ _ _ h => h) (Or.inl ⟨by rfl, ?_⟩) hHeld ?_
  · (intro W hW; (try dsimp only at hW); go_simp)
  try simp only [Act.put, List.setIfInBounds_toArray, List.set_cons_zero, List.set_cons_succ]
  refine wpAnyH_ready (rs := [10]) (by kernel_rfl) (by simp) ?_
  refine cons2 rfl rfl (fun K9 hK => ?_)
  go_simp
  have BL := hid ((Below.refl wz.heap.size wz).alloc (Nat.le_refl _) (.cells #[.int .i64 0, .string ⟨#[]⟩, .int .i64 0, .int .i64 0] 52))
  refine hK.out _ _ (by have H := HP0.out.next BL.out; obtain ⟨q0, q1, q2, q3, q4, q5⟩ := hHeld; exact ⟨H.c0, H.c1, H.w0 _ _ XA.out, H.w1 _ _ XA.out, H.w2 _ _ XA.out, H.w3 _ _ XA.out⟩) (fun hX => ?_)
  clear hK K9 hHeld
  have hHeld := hX
  clear hX
  try simp only [Act.put, List.setIfInBounds_toArray, List.set_cons_zero, List.set_cons_succ]
  refine wpAnyH_ready (rs := [11]) (by kernel_rfl) (by simp) ?_
  refine cons2 rfl rfl (fun K9 hK => ?_)
  go_simp
  have HX := hid (X4.new wz 52 (.int .i64 (xk : Nat)) (.string xt) (.int .i64 (xn : Nat)) (.int .i64 (xa : Nat)))
  have HP := hid (HP0.out.next HX.out.bl)
  have HG := hid (HG0.out.below HX.out.bl)
  have HB := hid (HBz.out.next HX.out.bl)
  clear HBz
  have HT := hid (HTz.out.next HX.out.bl)
  clear HTz
  refine hK.out _ _ (⟨HP.out.c0, HP.out.c1, HP.out.w0 _ _ XA.out, HP.out.w1 _ _ XA.out, HP.out.w2 _ _ XA.out, HP.out.w3 _ _ XA.out⟩) (fun hX => ?_)
  clear hK K9 hHeld
  have hHeld := hX
  clear hX
  try simp only [Act.put, List.setIfInBounds_toArray, List.set_cons_zero, List.set_cons_succ]
  replace WS := hid (Nat.lt_of_lt_of_le WS.out HX.out.bl.size)
  clear hHeld BL HG0
  refine wpAnyH_done (by kernel_rfl) ?_ _
  generalize World.alloc wz _ = w2 at *
  have x0 := HX.out.c0
  have x1 := HX.out.c1
  have x2 := HX.out.c2
  have x3 := HX.out.c3
  have hg0 : wz.heap.size < w2.heap.size := HX.out.lt
  have hgp : wz.heap.size ≠ p := by have := HP0.out.pl; omega
  generalize wz.heap.size = g at *

  clear c0 c1 d0 d1 d2 d3 x2 HP0 HX
  have pl2 := HP.out.pl
  by_cases q1 : xk = 1
  · subst q1
    have LR := hid (show R = ⟨some (.nd ⟨#[110, 97, 109, 101]⟩ xt 0 0 xa []), ws.drop (k + 1), o⟩ from by rw [RX.out, if_pos rfl, AX.out])
    have p1 := HP.out.c1
    have pz := HP.out.fz 1
    have HP3 := hid (HP.out.step (HM.out (Or.inl (by decide))))
    have HG3 := hid (HG.out.set (i := 1) (.int .i64 ((k : Int) + 1)))
    have HB3 := hid (HB.out.put (i := 1) (q := p) (by omega) (.int .i64 ((k : Int) + 1)))
    have y1 : (w2.setCell ⟨p, 1, none⟩ (.int .i64 ((k : Int) + 1))).cell? ⟨g, 1, none⟩ = some (.string xt) := (cell_ne (by omega)).trans x1
    have y3 : (w2.setCell ⟨p, 1, none⟩ (.int .i64 ((k : Int) + 1))).cell? ⟨g, 3, none⟩ = some (.int .i64 (xa : Nat)) := (cell_ne (by omega)).trans x3
    go_upto_region 4 with fail
    generalize World.setCell w2 _ _ = w3 at *
    obtain ⟨r0, r1, r2, r3, r4, r5, rz⟩ := HB3.out
    have BF := hid (HB3.out.sets (.string ⟨#[110, 97, 109, 101]⟩) (.string xt) (.int .i64 0) (.int .i64 0) (.int .i64 (xa : Nat)) (.slice none 0 0))
    have PF := hid (HP3.out.put6 (q := w.heap.size) (by omega) (by omega) (.string ⟨#[110, 97, 109, 101]⟩) (.string xt) (.int .i64 0) (.int .i64 0) (.int .i64 (xa : Nat)) (.slice none 0 0))
    have GF := hid (HG3.out.put6 (q := w.heap.size) (by omega) (.string ⟨#[110, 97, 109, 101]⟩) (.string xt) (.int .i64 0) (.int .i64 0) (.int .i64 (xa : Nat)) (.slice none 0 0))
    go_wp2_with fail
    generalize World.setCell _ ⟨w.heap.size, 5, none⟩ _ = w6 at *
    obtain ⟨f0, f1, f2, f3, f4, f5, _⟩ := BF.out
    exact bodyPost_ret (v := .tuple #[.agg #[.string ⟨#[110, 97, 109, 101]⟩, .string xt, .int .i64 0, .int .i64 0, .int .i64 (xa : Nat), .slice none 0 0], .bool true]) (by simp [results, Tryz.results137, go_sem, f0, f1, f2, f3, f4, f5]) rfl (Rp.yes (Nat.lt_succ_self k) LR.out GF.out PF.out (Nv.leaf ⟨#[110, 97, 109, 101]⟩ xt 0 0 xa))
  · have q1' : (xk : Int) ≠ 1 := by omega
    cases e40 : eqB xt ⟨#[40]⟩
    · cases emin : eqB xt ⟨#[109, 105, 110]⟩
      · cases emax : eqB xt ⟨#[109, 97, 120]⟩
        · cases elen : eqB xt ⟨#[108, 101, 110]⟩
          · cases eat : eqB xt ⟨#[97, 116]⟩
            · cases esum : eqB xt ⟨#[115, 117, 109]⟩
              · have u40 : (xt.toList == [40]) = false := (eqL xt [40]).trans e40
                have umin : (xt.toList == [109, 105, 110]) = false := (eqL xt [109, 105, 110]).trans emin
                have umax : (xt.toList == [109, 97, 120]) = false := (eqL xt [109, 97, 120]).trans emax
                have ulen : (xt.toList == [108, 101, 110]) = false := (eqL xt [108, 101, 110]).trans elen
                have uat : (xt.toList == [97, 116]) = false := (eqL xt [97, 116]).trans eat
                have usum : (xt.toList == [115, 117, 109]) = false := (eqL xt [115, 117, 109]).trans esum
                have RX' := hid (show R = litR (ws.drop k) o from by rw [RX.out, if_neg q1, if_neg (by rw [e40]; decide), if_neg (by rw [emin, emax]; decide), if_neg (by rw [elen]; decide), if_neg (by rw [eat]; decide), if_neg (by rw [esum]; decide)])
                have RX'' := RX'.out
                subst RX''
                go_upto_region 20 with fail
                have HC := hid (plit_any HP.out)
                go_wp2_with (go_at_call 107; with_reducible refine Calls.mono (HC.out) ?_; rintro e w5 h5; obtain ⟨g5, k', t, sa, sm, sc, ok, hk, hk2, hl, p5, rfl, hok, nv, ht⟩ := h5.parts; have HK2 := hid hk2; clear hk2; have HR5 := hid (HB.out.gr g5 (by omega)); have HP5 := hid p5; have HG5 := hid (HG.out.trans g5); have HN5 := hid nv; have HT5 := hid ht; have HL5 := hid hl; have HO5 := hid hok; clear h5 g5 p5 nv ht hl hok; obtain ⟨r0, r1, r2, r3, r4, r5, rz⟩ := HR5.out; have BF := hid (HR5.out.sets (.string t.op) (.string t.name) (.int .i64 (t.kind : Nat)) (.int .i64 t.n) (.int .i64 (t.pl : Nat)) (.slice sa sm sc)); have PF := hid (HP5.out.put6 (q := w.heap.size) (by omega) (by omega) (.string t.op) (.string t.name) (.int .i64 (t.kind : Nat)) (.int .i64 t.n) (.int .i64 (t.pl : Nat)) (.slice sa sm sc)); have GF := hid (HG5.out.put6 (q := w.heap.size) (by omega) (.string t.op) (.string t.name) (.int .i64 (t.kind : Nat)) (.int .i64 t.n) (.int .i64 (t.pl : Nat)) (.slice sa sm sc)); have NF := hid (HN5.out.put6w (q := w.heap.size) (m := w.heap.size) (by have := WS.out; omega) (.string t.op) (.string t.name) (.int .i64 (t.kind : Nat)) (.int .i64 t.n) (.int .i64 (t.pl : Nat)) (.slice sa sm sc)))
                generalize World.setCell _ ⟨w.heap.size, 5, none⟩ _ = w6 at *
                obtain ⟨f0, f1, f2, f3, f4, f5, _⟩ := BF.out
                exact bodyPost_ret (v := .tuple #[.agg #[.string t.op, .string t.name, .int .i64 (t.kind : Nat), .int .i64 t.n, .int .i64 (t.pl : Nat), .slice sa sm sc], .bool ok]) (by simp [results, Tryz.results137, go_sem, f0, f1, f2, f3, f4, f5]) rfl (⟨GF.out, k', _, hk, fun e => HK2.out (by rw [← HO5.out]; exact e), HL5.out, PF.out, congrArg (fun x => Ending.returned (.tuple #[.agg #[.string t.op, .string t.name, .int .i64 (t.kind : Nat), .int .i64 t.n, .int .i64 (t.pl : Nat), .slice sa sm sc], .bool x])) HO5.out.symm, t, ⟨_, rfl, NF.out⟩, HT5.out⟩)
              · have u40 : (xt.toList == [40]) = false := (eqL xt [40]).trans e40
                have umin : (xt.toList == [109, 105, 110]) = false := (eqL xt [109, 105, 110]).trans emin
                have umax : (xt.toList == [109, 97, 120]) = false := (eqL xt [109, 97, 120]).trans emax
                have ulen : (xt.toList == [108, 101, 110]) = false := (eqL xt [108, 101, 110]).trans elen
                have uat : (xt.toList == [97, 116]) = false := (eqL xt [97, 116]).trans eat
                have sx : xt = ⟨#[115, 117, 109]⟩ := eqB_eq esum
                subst sx
                have RX' := hid (show R = formF E deep [⟨#[115, 117, 109]⟩, ⟨#[40]⟩, ⟨#[78, 65, 77, 69]⟩, ⟨#[105, 110]⟩, ⟨#[69, 88, 80, 82]⟩, ⟨#[58]⟩, ⟨#[69, 88, 80, 82]⟩, ⟨#[41]⟩] (op0 ⟨#[115, 117, 109]⟩ (aw (ws.drop k))) (ws.drop k) o from by rw [RX.out, if_neg q1, if_neg (by rw [e40]; decide), if_neg (by rw [emin, emax]; decide), if_neg (by rw [elen]; decide), if_neg (by rw [eat]; decide), if_pos esum])
                have RX'' := RX'.out
                subst RX''
                go_upto_region 19 with fail
                have HS2 := hid (show Below w2.heap.size w2 (w2.alloc (.cells #[.string ⟨#[115, 117, 109]⟩, .string ⟨#[40]⟩, .string ⟨#[78, 65, 77, 69]⟩, .string ⟨#[105, 110]⟩, .string ⟨#[69, 88, 80, 82]⟩, .string ⟨#[58]⟩, .string ⟨#[69, 88, 80, 82]⟩, .string ⟨#[41]⟩] 9)) from (Below.refl _ _).alloc (Nat.le_refl _) _)
                have HC := hid (show Calls Tryz.prog 63 #[.pointer (some ⟨p, 0, none⟩), .string ⟨#[115, 117, 109]⟩, .int .i64 (deep : Nat), .slice (some ⟨w2.heap.size, 0, none⟩) 8 8] (w2.alloc (.cells #[.string ⟨#[115, 117, 109]⟩, .string ⟨#[40]⟩, .string ⟨#[78, 65, 77, 69]⟩, .string ⟨#[105, 110]⟩, .string ⟨#[69, 88, 80, 82]⟩, .string ⟨#[58]⟩, .string ⟨#[69, 88, 80, 82]⟩, .string ⟨#[41]⟩] 9)) (fun e w' => Rp (w2.alloc (.cells #[.string ⟨#[115, 117, 109]⟩, .string ⟨#[40]⟩, .string ⟨#[78, 65, 77, 69]⟩, .string ⟨#[105, 110]⟩, .string ⟨#[69, 88, 80, 82]⟩, .string ⟨#[58]⟩, .string ⟨#[69, 88, 80, 82]⟩, .string ⟨#[41]⟩] 9)) w' p b c ws k e (formF E deep [⟨#[115, 117, 109]⟩, ⟨#[40]⟩, ⟨#[78, 65, 77, 69]⟩, ⟨#[105, 110]⟩, ⟨#[69, 88, 80, 82]⟩, ⟨#[58]⟩, ⟨#[69, 88, 80, 82]⟩, ⟨#[41]⟩] (op0 ⟨#[115, 117, 109]⟩ (aw (ws.drop k))) (ws.drop k) o)) from pform_any ⟨#[115, 117, 109]⟩ deep [⟨#[115, 117, 109]⟩, ⟨#[40]⟩, ⟨#[78, 65, 77, 69]⟩, ⟨#[105, 110]⟩, ⟨#[69, 88, 80, 82]⟩, ⟨#[58]⟩, ⟨#[69, 88, 80, 82]⟩, ⟨#[41]⟩] w2.heap.size hE (HT.out.next HS2.out) hN hD (pa_new w2 [⟨#[115, 117, 109]⟩, ⟨#[40]⟩, ⟨#[78, 65, 77, 69]⟩, ⟨#[105, 110]⟩, ⟨#[69, 88, 80, 82]⟩, ⟨#[58]⟩, ⟨#[69, 88, 80, 82]⟩, ⟨#[41]⟩]) (by have := HP.out.pl; omega) (by decide) ⟨_, rfl, by decide⟩ hg (ne_all (by decide)) (HP.out.next HS2.out))
                have HB2 := hid (HB.out.next HS2.out)
                have HG2 := hid (HG.out.below HS2.out)
                have WS2 := hid (Nat.lt_of_lt_of_le WS.out HS2.out.size)
                go_wp2_with (go_at_call 63; with_reducible refine Calls.mono (HC.out) ?_; rintro e w5 h5; obtain ⟨g5, k', t, sa, sm, sc, ok, hk, hk2, hl, p5, rfl, hok, nv, ht⟩ := h5.parts; have HK2 := hid hk2; clear hk2; have HR5 := hid (HB2.out.gr g5 (by omega)); have HP5 := hid p5; have HG5 := hid (HG2.out.trans g5); have HN5 := hid nv; have HT5 := hid ht; have HL5 := hid hl; have HO5 := hid hok; clear h5 g5 p5 nv ht hl hok; obtain ⟨r0, r1, r2, r3, r4, r5, rz⟩ := HR5.out; have BF := hid (HR5.out.sets (.string t.op) (.string t.name) (.int .i64 (t.kind : Nat)) (.int .i64 t.n) (.int .i64 (t.pl : Nat)) (.slice sa sm sc)); have PF := hid (HP5.out.put6 (q := w.heap.size) (by omega) (by omega) (.string t.op) (.string t.name) (.int .i64 (t.kind : Nat)) (.int .i64 t.n) (.int .i64 (t.pl : Nat)) (.slice sa sm sc)); have GF := hid (HG5.out.put6 (q := w.heap.size) (by omega) (.string t.op) (.string t.name) (.int .i64 (t.kind : Nat)) (.int .i64 t.n) (.int .i64 (t.pl : Nat)) (.slice sa sm sc)); have NF := hid (HN5.out.put6w (q := w.heap.size) (m := w.heap.size) (by have := WS2.out; omega) (.string t.op) (.string t.name) (.int .i64 (t.kind : Nat)) (.int .i64 t.n) (.int .i64 (t.pl : Nat)) (.slice sa sm sc)))
                generalize World.setCell _ ⟨w.heap.size, 5, none⟩ _ = w6 at *
                obtain ⟨f0, f1, f2, f3, f4, f5, _⟩ := BF.out
                exact bodyPost_ret (v := .tuple #[.agg #[.string t.op, .string t.name, .int .i64 (t.kind : Nat), .int .i64 t.n, .int .i64 (t.pl : Nat), .slice sa sm sc], .bool ok]) (by simp [results, Tryz.results137, go_sem, f0, f1, f2, f3, f4, f5]) rfl (⟨GF.out, k', _, hk, fun e => HK2.out (by rw [← HO5.out]; exact e), HL5.out, PF.out, congrArg (fun x => Ending.returned (.tuple #[.agg #[.string t.op, .string t.name, .int .i64 (t.kind : Nat), .int .i64 t.n, .int .i64 (t.pl : Nat), .slice sa sm sc], .bool x])) HO5.out.symm, t, ⟨_, rfl, NF.out⟩, HT5.out⟩)
            · have u40 : (xt.toList == [40]) = false := (eqL xt [40]).trans e40
              have umin : (xt.toList == [109, 105, 110]) = false := (eqL xt [109, 105, 110]).trans emin
              have umax : (xt.toList == [109, 97, 120]) = false := (eqL xt [109, 97, 120]).trans emax
              have ulen : (xt.toList == [108, 101, 110]) = false := (eqL xt [108, 101, 110]).trans elen
              have sx : xt = ⟨#[97, 116]⟩ := eqB_eq eat
              subst sx
              have RX' := hid (show R = formF E deep [⟨#[97, 116]⟩, ⟨#[40]⟩, ⟨#[78, 65, 77, 69]⟩, ⟨#[44]⟩, ⟨#[69, 88, 80, 82]⟩, ⟨#[41]⟩] (op0 ⟨#[97, 116]⟩ (aw (ws.drop k))) (ws.drop k) o from by rw [RX.out, if_neg q1, if_neg (by rw [e40]; decide), if_neg (by rw [emin, emax]; decide), if_neg (by rw [elen]; decide), if_pos eat])
              have RX'' := RX'.out
              subst RX''
              go_upto_region 17 with fail
              have HS2 := hid (show Below w2.heap.size w2 (w2.alloc (.cells #[.string ⟨#[97, 116]⟩, .string ⟨#[40]⟩, .string ⟨#[78, 65, 77, 69]⟩, .string ⟨#[44]⟩, .string ⟨#[69, 88, 80, 82]⟩, .string ⟨#[41]⟩] 9)) from (Below.refl _ _).alloc (Nat.le_refl _) _)
              have HC := hid (show Calls Tryz.prog 63 #[.pointer (some ⟨p, 0, none⟩), .string ⟨#[97, 116]⟩, .int .i64 (deep : Nat), .slice (some ⟨w2.heap.size, 0, none⟩) 6 6] (w2.alloc (.cells #[.string ⟨#[97, 116]⟩, .string ⟨#[40]⟩, .string ⟨#[78, 65, 77, 69]⟩, .string ⟨#[44]⟩, .string ⟨#[69, 88, 80, 82]⟩, .string ⟨#[41]⟩] 9)) (fun e w' => Rp (w2.alloc (.cells #[.string ⟨#[97, 116]⟩, .string ⟨#[40]⟩, .string ⟨#[78, 65, 77, 69]⟩, .string ⟨#[44]⟩, .string ⟨#[69, 88, 80, 82]⟩, .string ⟨#[41]⟩] 9)) w' p b c ws k e (formF E deep [⟨#[97, 116]⟩, ⟨#[40]⟩, ⟨#[78, 65, 77, 69]⟩, ⟨#[44]⟩, ⟨#[69, 88, 80, 82]⟩, ⟨#[41]⟩] (op0 ⟨#[97, 116]⟩ (aw (ws.drop k))) (ws.drop k) o)) from pform_any ⟨#[97, 116]⟩ deep [⟨#[97, 116]⟩, ⟨#[40]⟩, ⟨#[78, 65, 77, 69]⟩, ⟨#[44]⟩, ⟨#[69, 88, 80, 82]⟩, ⟨#[41]⟩] w2.heap.size hE (HT.out.next HS2.out) hN hD (pa_new w2 [⟨#[97, 116]⟩, ⟨#[40]⟩, ⟨#[78, 65, 77, 69]⟩, ⟨#[44]⟩, ⟨#[69, 88, 80, 82]⟩, ⟨#[41]⟩]) (by have := HP.out.pl; omega) (by decide) ⟨_, rfl, by decide⟩ hg (ne_all (by decide)) (HP.out.next HS2.out))
              have HB2 := hid (HB.out.next HS2.out)
              have HG2 := hid (HG.out.below HS2.out)
              have WS2 := hid (Nat.lt_of_lt_of_le WS.out HS2.out.size)
              go_wp2_with (go_at_call 63; with_reducible refine Calls.mono (HC.out) ?_; rintro e w5 h5; obtain ⟨g5, k', t, sa, sm, sc, ok, hk, hk2, hl, p5, rfl, hok, nv, ht⟩ := h5.parts; have HK2 := hid hk2; clear hk2; have HR5 := hid (HB2.out.gr g5 (by omega)); have HP5 := hid p5; have HG5 := hid (HG2.out.trans g5); have HN5 := hid nv; have HT5 := hid ht; have HL5 := hid hl; have HO5 := hid hok; clear h5 g5 p5 nv ht hl hok; obtain ⟨r0, r1, r2, r3, r4, r5, rz⟩ := HR5.out; have BF := hid (HR5.out.sets (.string t.op) (.string t.name) (.int .i64 (t.kind : Nat)) (.int .i64 t.n) (.int .i64 (t.pl : Nat)) (.slice sa sm sc)); have PF := hid (HP5.out.put6 (q := w.heap.size) (by omega) (by omega) (.string t.op) (.string t.name) (.int .i64 (t.kind : Nat)) (.int .i64 t.n) (.int .i64 (t.pl : Nat)) (.slice sa sm sc)); have GF := hid (HG5.out.put6 (q := w.heap.size) (by omega) (.string t.op) (.string t.name) (.int .i64 (t.kind : Nat)) (.int .i64 t.n) (.int .i64 (t.pl : Nat)) (.slice sa sm sc)); have NF := hid (HN5.out.put6w (q := w.heap.size) (m := w.heap.size) (by have := WS2.out; omega) (.string t.op) (.string t.name) (.int .i64 (t.kind : Nat)) (.int .i64 t.n) (.int .i64 (t.pl : Nat)) (.slice sa sm sc)))
              generalize World.setCell _ ⟨w.heap.size, 5, none⟩ _ = w6 at *
              obtain ⟨f0, f1, f2, f3, f4, f5, _⟩ := BF.out
              exact bodyPost_ret (v := .tuple #[.agg #[.string t.op, .string t.name, .int .i64 (t.kind : Nat), .int .i64 t.n, .int .i64 (t.pl : Nat), .slice sa sm sc], .bool ok]) (by simp [results, Tryz.results137, go_sem, f0, f1, f2, f3, f4, f5]) rfl (⟨GF.out, k', _, hk, fun e => HK2.out (by rw [← HO5.out]; exact e), HL5.out, PF.out, congrArg (fun x => Ending.returned (.tuple #[.agg #[.string t.op, .string t.name, .int .i64 (t.kind : Nat), .int .i64 t.n, .int .i64 (t.pl : Nat), .slice sa sm sc], .bool x])) HO5.out.symm, t, ⟨_, rfl, NF.out⟩, HT5.out⟩)
          · have u40 : (xt.toList == [40]) = false := (eqL xt [40]).trans e40
            have umin : (xt.toList == [109, 105, 110]) = false := (eqL xt [109, 105, 110]).trans emin
            have umax : (xt.toList == [109, 97, 120]) = false := (eqL xt [109, 97, 120]).trans emax
            have sx : xt = ⟨#[108, 101, 110]⟩ := eqB_eq elen
            subst sx
            have RX' := hid (show R = formF E deep [⟨#[108, 101, 110]⟩, ⟨#[40]⟩, ⟨#[69, 88, 80, 82]⟩, ⟨#[41]⟩] (op0 ⟨#[108, 101, 110]⟩ (aw (ws.drop k))) (ws.drop k) o from by rw [RX.out, if_neg q1, if_neg (by rw [e40]; decide), if_neg (by rw [emin, emax]; decide), if_pos elen])
            have RX'' := RX'.out
            subst RX''
            go_upto_region 15 with fail
            have HS2 := hid (show Below w2.heap.size w2 (w2.alloc (.cells #[.string ⟨#[108, 101, 110]⟩, .string ⟨#[40]⟩, .string ⟨#[69, 88, 80, 82]⟩, .string ⟨#[41]⟩] 9)) from (Below.refl _ _).alloc (Nat.le_refl _) _)
            have HC := hid (show Calls Tryz.prog 63 #[.pointer (some ⟨p, 0, none⟩), .string ⟨#[108, 101, 110]⟩, .int .i64 (deep : Nat), .slice (some ⟨w2.heap.size, 0, none⟩) 4 4] (w2.alloc (.cells #[.string ⟨#[108, 101, 110]⟩, .string ⟨#[40]⟩, .string ⟨#[69, 88, 80, 82]⟩, .string ⟨#[41]⟩] 9)) (fun e w' => Rp (w2.alloc (.cells #[.string ⟨#[108, 101, 110]⟩, .string ⟨#[40]⟩, .string ⟨#[69, 88, 80, 82]⟩, .string ⟨#[41]⟩] 9)) w' p b c ws k e (formF E deep [⟨#[108, 101, 110]⟩, ⟨#[40]⟩, ⟨#[69, 88, 80, 82]⟩, ⟨#[41]⟩] (op0 ⟨#[108, 101, 110]⟩ (aw (ws.drop k))) (ws.drop k) o)) from pform_any ⟨#[108, 101, 110]⟩ deep [⟨#[108, 101, 110]⟩, ⟨#[40]⟩, ⟨#[69, 88, 80, 82]⟩, ⟨#[41]⟩] w2.heap.size hE (HT.out.next HS2.out) hN hD (pa_new w2 [⟨#[108, 101, 110]⟩, ⟨#[40]⟩, ⟨#[69, 88, 80, 82]⟩, ⟨#[41]⟩]) (by have := HP.out.pl; omega) (by decide) ⟨_, rfl, by decide⟩ hg (ne_all (by decide)) (HP.out.next HS2.out))
            have HB2 := hid (HB.out.next HS2.out)
            have HG2 := hid (HG.out.below HS2.out)
            have WS2 := hid (Nat.lt_of_lt_of_le WS.out HS2.out.size)
            go_wp2_with (go_at_call 63; with_reducible refine Calls.mono (HC.out) ?_; rintro e w5 h5; obtain ⟨g5, k', t, sa, sm, sc, ok, hk, hk2, hl, p5, rfl, hok, nv, ht⟩ := h5.parts; have HK2 := hid hk2; clear hk2; have HR5 := hid (HB2.out.gr g5 (by omega)); have HP5 := hid p5; have HG5 := hid (HG2.out.trans g5); have HN5 := hid nv; have HT5 := hid ht; have HL5 := hid hl; have HO5 := hid hok; clear h5 g5 p5 nv ht hl hok; obtain ⟨r0, r1, r2, r3, r4, r5, rz⟩ := HR5.out; have BF := hid (HR5.out.sets (.string t.op) (.string t.name) (.int .i64 (t.kind : Nat)) (.int .i64 t.n) (.int .i64 (t.pl : Nat)) (.slice sa sm sc)); have PF := hid (HP5.out.put6 (q := w.heap.size) (by omega) (by omega) (.string t.op) (.string t.name) (.int .i64 (t.kind : Nat)) (.int .i64 t.n) (.int .i64 (t.pl : Nat)) (.slice sa sm sc)); have GF := hid (HG5.out.put6 (q := w.heap.size) (by omega) (.string t.op) (.string t.name) (.int .i64 (t.kind : Nat)) (.int .i64 t.n) (.int .i64 (t.pl : Nat)) (.slice sa sm sc)); have NF := hid (HN5.out.put6w (q := w.heap.size) (m := w.heap.size) (by have := WS2.out; omega) (.string t.op) (.string t.name) (.int .i64 (t.kind : Nat)) (.int .i64 t.n) (.int .i64 (t.pl : Nat)) (.slice sa sm sc)))
            generalize World.setCell _ ⟨w.heap.size, 5, none⟩ _ = w6 at *
            obtain ⟨f0, f1, f2, f3, f4, f5, _⟩ := BF.out
            exact bodyPost_ret (v := .tuple #[.agg #[.string t.op, .string t.name, .int .i64 (t.kind : Nat), .int .i64 t.n, .int .i64 (t.pl : Nat), .slice sa sm sc], .bool ok]) (by simp [results, Tryz.results137, go_sem, f0, f1, f2, f3, f4, f5]) rfl (⟨GF.out, k', _, hk, fun e => HK2.out (by rw [← HO5.out]; exact e), HL5.out, PF.out, congrArg (fun x => Ending.returned (.tuple #[.agg #[.string t.op, .string t.name, .int .i64 (t.kind : Nat), .int .i64 t.n, .int .i64 (t.pl : Nat), .slice sa sm sc], .bool x])) HO5.out.symm, t, ⟨_, rfl, NF.out⟩, HT5.out⟩)
        · have u40 : (xt.toList == [40]) = false := (eqL xt [40]).trans e40
          have umin : (xt.toList == [109, 105, 110]) = false := (eqL xt [109, 105, 110]).trans emin
          have sx : xt = ⟨#[109, 97, 120]⟩ := eqB_eq emax
          subst sx
          have RX' := hid (show R = formF E deep [⟨#[109, 97, 120]⟩, ⟨#[40]⟩, ⟨#[69, 88, 80, 82]⟩, ⟨#[44]⟩, ⟨#[69, 88, 80, 82]⟩, ⟨#[41]⟩] (op0 ⟨#[109, 97, 120]⟩ (aw (ws.drop k))) (ws.drop k) o from by rw [RX.out, if_neg q1, if_neg (by rw [e40]; decide), if_pos (by rw [emin, emax]; decide)])
          have RX'' := RX'.out
          subst RX''
          go_upto_region 13 with fail
          have HS2 := hid (show Below w2.heap.size w2 (w2.alloc (.cells #[.string ⟨#[109, 97, 120]⟩, .string ⟨#[40]⟩, .string ⟨#[69, 88, 80, 82]⟩, .string ⟨#[44]⟩, .string ⟨#[69, 88, 80, 82]⟩, .string ⟨#[41]⟩] 9)) from (Below.refl _ _).alloc (Nat.le_refl _) _)
          have HC := hid (show Calls Tryz.prog 63 #[.pointer (some ⟨p, 0, none⟩), .string ⟨#[109, 97, 120]⟩, .int .i64 (deep : Nat), .slice (some ⟨w2.heap.size, 0, none⟩) 6 6] (w2.alloc (.cells #[.string ⟨#[109, 97, 120]⟩, .string ⟨#[40]⟩, .string ⟨#[69, 88, 80, 82]⟩, .string ⟨#[44]⟩, .string ⟨#[69, 88, 80, 82]⟩, .string ⟨#[41]⟩] 9)) (fun e w' => Rp (w2.alloc (.cells #[.string ⟨#[109, 97, 120]⟩, .string ⟨#[40]⟩, .string ⟨#[69, 88, 80, 82]⟩, .string ⟨#[44]⟩, .string ⟨#[69, 88, 80, 82]⟩, .string ⟨#[41]⟩] 9)) w' p b c ws k e (formF E deep [⟨#[109, 97, 120]⟩, ⟨#[40]⟩, ⟨#[69, 88, 80, 82]⟩, ⟨#[44]⟩, ⟨#[69, 88, 80, 82]⟩, ⟨#[41]⟩] (op0 ⟨#[109, 97, 120]⟩ (aw (ws.drop k))) (ws.drop k) o)) from pform_any ⟨#[109, 97, 120]⟩ deep [⟨#[109, 97, 120]⟩, ⟨#[40]⟩, ⟨#[69, 88, 80, 82]⟩, ⟨#[44]⟩, ⟨#[69, 88, 80, 82]⟩, ⟨#[41]⟩] w2.heap.size hE (HT.out.next HS2.out) hN hD (pa_new w2 [⟨#[109, 97, 120]⟩, ⟨#[40]⟩, ⟨#[69, 88, 80, 82]⟩, ⟨#[44]⟩, ⟨#[69, 88, 80, 82]⟩, ⟨#[41]⟩]) (by have := HP.out.pl; omega) (by decide) ⟨_, rfl, by decide⟩ hg (ne_all (by decide)) (HP.out.next HS2.out))
          have HB2 := hid (HB.out.next HS2.out)
          have HG2 := hid (HG.out.below HS2.out)
          have WS2 := hid (Nat.lt_of_lt_of_le WS.out HS2.out.size)
          go_wp2_with (go_at_call 63; with_reducible refine Calls.mono (HC.out) ?_; rintro e w5 h5; obtain ⟨g5, k', t, sa, sm, sc, ok, hk, hk2, hl, p5, rfl, hok, nv, ht⟩ := h5.parts; have HK2 := hid hk2; clear hk2; have HR5 := hid (HB2.out.gr g5 (by omega)); have HP5 := hid p5; have HG5 := hid (HG2.out.trans g5); have HN5 := hid nv; have HT5 := hid ht; have HL5 := hid hl; have HO5 := hid hok; clear h5 g5 p5 nv ht hl hok; obtain ⟨r0, r1, r2, r3, r4, r5, rz⟩ := HR5.out; have BF := hid (HR5.out.sets (.string t.op) (.string t.name) (.int .i64 (t.kind : Nat)) (.int .i64 t.n) (.int .i64 (t.pl : Nat)) (.slice sa sm sc)); have PF := hid (HP5.out.put6 (q := w.heap.size) (by omega) (by omega) (.string t.op) (.string t.name) (.int .i64 (t.kind : Nat)) (.int .i64 t.n) (.int .i64 (t.pl : Nat)) (.slice sa sm sc)); have GF := hid (HG5.out.put6 (q := w.heap.size) (by omega) (.string t.op) (.string t.name) (.int .i64 (t.kind : Nat)) (.int .i64 t.n) (.int .i64 (t.pl : Nat)) (.slice sa sm sc)); have NF := hid (HN5.out.put6w (q := w.heap.size) (m := w.heap.size) (by have := WS2.out; omega) (.string t.op) (.string t.name) (.int .i64 (t.kind : Nat)) (.int .i64 t.n) (.int .i64 (t.pl : Nat)) (.slice sa sm sc)))
          generalize World.setCell _ ⟨w.heap.size, 5, none⟩ _ = w6 at *
          obtain ⟨f0, f1, f2, f3, f4, f5, _⟩ := BF.out
          exact bodyPost_ret (v := .tuple #[.agg #[.string t.op, .string t.name, .int .i64 (t.kind : Nat), .int .i64 t.n, .int .i64 (t.pl : Nat), .slice sa sm sc], .bool ok]) (by simp [results, Tryz.results137, go_sem, f0, f1, f2, f3, f4, f5]) rfl (⟨GF.out, k', _, hk, fun e => HK2.out (by rw [← HO5.out]; exact e), HL5.out, PF.out, congrArg (fun x => Ending.returned (.tuple #[.agg #[.string t.op, .string t.name, .int .i64 (t.kind : Nat), .int .i64 t.n, .int .i64 (t.pl : Nat), .slice sa sm sc], .bool x])) HO5.out.symm, t, ⟨_, rfl, NF.out⟩, HT5.out⟩)
      · have u40 : (xt.toList == [40]) = false := (eqL xt [40]).trans e40
        have sx : xt = ⟨#[109, 105, 110]⟩ := eqB_eq emin
        subst sx
        have RX' := hid (show R = formF E deep [⟨#[109, 105, 110]⟩, ⟨#[40]⟩, ⟨#[69, 88, 80, 82]⟩, ⟨#[44]⟩, ⟨#[69, 88, 80, 82]⟩, ⟨#[41]⟩] (op0 ⟨#[109, 105, 110]⟩ (aw (ws.drop k))) (ws.drop k) o from by rw [RX.out, if_neg q1, if_neg (by rw [e40]; decide), if_pos (by rw [emin]; rfl)])
        have RX'' := RX'.out
        subst RX''
        go_upto_region 13 with fail
        have HS2 := hid (show Below w2.heap.size w2 (w2.alloc (.cells #[.string ⟨#[109, 105, 110]⟩, .string ⟨#[40]⟩, .string ⟨#[69, 88, 80, 82]⟩, .string ⟨#[44]⟩, .string ⟨#[69, 88, 80, 82]⟩, .string ⟨#[41]⟩] 9)) from (Below.refl _ _).alloc (Nat.le_refl _) _)
        have HC := hid (show Calls Tryz.prog 63 #[.pointer (some ⟨p, 0, none⟩), .string ⟨#[109, 105, 110]⟩, .int .i64 (deep : Nat), .slice (some ⟨w2.heap.size, 0, none⟩) 6 6] (w2.alloc (.cells #[.string ⟨#[109, 105, 110]⟩, .string ⟨#[40]⟩, .string ⟨#[69, 88, 80, 82]⟩, .string ⟨#[44]⟩, .string ⟨#[69, 88, 80, 82]⟩, .string ⟨#[41]⟩] 9)) (fun e w' => Rp (w2.alloc (.cells #[.string ⟨#[109, 105, 110]⟩, .string ⟨#[40]⟩, .string ⟨#[69, 88, 80, 82]⟩, .string ⟨#[44]⟩, .string ⟨#[69, 88, 80, 82]⟩, .string ⟨#[41]⟩] 9)) w' p b c ws k e (formF E deep [⟨#[109, 105, 110]⟩, ⟨#[40]⟩, ⟨#[69, 88, 80, 82]⟩, ⟨#[44]⟩, ⟨#[69, 88, 80, 82]⟩, ⟨#[41]⟩] (op0 ⟨#[109, 105, 110]⟩ (aw (ws.drop k))) (ws.drop k) o)) from pform_any ⟨#[109, 105, 110]⟩ deep [⟨#[109, 105, 110]⟩, ⟨#[40]⟩, ⟨#[69, 88, 80, 82]⟩, ⟨#[44]⟩, ⟨#[69, 88, 80, 82]⟩, ⟨#[41]⟩] w2.heap.size hE (HT.out.next HS2.out) hN hD (pa_new w2 [⟨#[109, 105, 110]⟩, ⟨#[40]⟩, ⟨#[69, 88, 80, 82]⟩, ⟨#[44]⟩, ⟨#[69, 88, 80, 82]⟩, ⟨#[41]⟩]) (by have := HP.out.pl; omega) (by decide) ⟨_, rfl, by decide⟩ hg (ne_all (by decide)) (HP.out.next HS2.out))
        have HB2 := hid (HB.out.next HS2.out)
        have HG2 := hid (HG.out.below HS2.out)
        have WS2 := hid (Nat.lt_of_lt_of_le WS.out HS2.out.size)
        go_wp2_with (go_at_call 63; with_reducible refine Calls.mono (HC.out) ?_; rintro e w5 h5; obtain ⟨g5, k', t, sa, sm, sc, ok, hk, hk2, hl, p5, rfl, hok, nv, ht⟩ := h5.parts; have HK2 := hid hk2; clear hk2; have HR5 := hid (HB2.out.gr g5 (by omega)); have HP5 := hid p5; have HG5 := hid (HG2.out.trans g5); have HN5 := hid nv; have HT5 := hid ht; have HL5 := hid hl; have HO5 := hid hok; clear h5 g5 p5 nv ht hl hok; obtain ⟨r0, r1, r2, r3, r4, r5, rz⟩ := HR5.out; have BF := hid (HR5.out.sets (.string t.op) (.string t.name) (.int .i64 (t.kind : Nat)) (.int .i64 t.n) (.int .i64 (t.pl : Nat)) (.slice sa sm sc)); have PF := hid (HP5.out.put6 (q := w.heap.size) (by omega) (by omega) (.string t.op) (.string t.name) (.int .i64 (t.kind : Nat)) (.int .i64 t.n) (.int .i64 (t.pl : Nat)) (.slice sa sm sc)); have GF := hid (HG5.out.put6 (q := w.heap.size) (by omega) (.string t.op) (.string t.name) (.int .i64 (t.kind : Nat)) (.int .i64 t.n) (.int .i64 (t.pl : Nat)) (.slice sa sm sc)); have NF := hid (HN5.out.put6w (q := w.heap.size) (m := w.heap.size) (by have := WS2.out; omega) (.string t.op) (.string t.name) (.int .i64 (t.kind : Nat)) (.int .i64 t.n) (.int .i64 (t.pl : Nat)) (.slice sa sm sc)))
        generalize World.setCell _ ⟨w.heap.size, 5, none⟩ _ = w6 at *
        obtain ⟨f0, f1, f2, f3, f4, f5, _⟩ := BF.out
        exact bodyPost_ret (v := .tuple #[.agg #[.string t.op, .string t.name, .int .i64 (t.kind : Nat), .int .i64 t.n, .int .i64 (t.pl : Nat), .slice sa sm sc], .bool ok]) (by simp [results, Tryz.results137, go_sem, f0, f1, f2, f3, f4, f5]) rfl (⟨GF.out, k', _, hk, fun e => HK2.out (by rw [← HO5.out]; exact e), HL5.out, PF.out, congrArg (fun x => Ending.returned (.tuple #[.agg #[.string t.op, .string t.name, .int .i64 (t.kind : Nat), .int .i64 t.n, .int .i64 (t.pl : Nat), .slice sa sm sc], .bool x])) HO5.out.symm, t, ⟨_, rfl, NF.out⟩, HT5.out⟩)
    · have u40 : (xt.toList == [40]) = true := (eqL xt [40]).trans e40
      obtain ⟨RF, hRF⟩ : ∃ RF, formF E deep [⟨#[40]⟩, ⟨#[69, 88, 80, 82]⟩, ⟨#[41]⟩] (op0 ⟨#[]⟩ (aw (ws.drop k))) (ws.drop k) o = RF := ⟨_, rfl⟩
      have OK1 := hid (show ∀ n, RF.t = some n → ∃ t, n.kids = [t] from fun n e => open_kids (by rw [hRF]; exact e))
      have RX' := hid (show R = kidF RF from by rw [RX.out, if_neg q1, if_pos e40, hRF])
      go_upto_region 7 with fail
      have HS2 := hid (show Below w2.heap.size w2 (w2.alloc (.cells #[.string ⟨#[40]⟩, .string ⟨#[69, 88, 80, 82]⟩, .string ⟨#[41]⟩] 9)) from (Below.refl _ _).alloc (Nat.le_refl _) _)
      have HC := hid (show Calls Tryz.prog 63 #[.pointer (some ⟨p, 0, none⟩), .string ⟨#[]⟩, .int .i64 (deep : Nat), .slice (some ⟨w2.heap.size, 0, none⟩) 3 3] (w2.alloc (.cells #[.string ⟨#[40]⟩, .string ⟨#[69, 88, 80, 82]⟩, .string ⟨#[41]⟩] 9)) (fun e w' => Rp (w2.alloc (.cells #[.string ⟨#[40]⟩, .string ⟨#[69, 88, 80, 82]⟩, .string ⟨#[41]⟩] 9)) w' p b c ws k e (formF E deep [⟨#[40]⟩, ⟨#[69, 88, 80, 82]⟩, ⟨#[41]⟩] (op0 ⟨#[]⟩ (aw (ws.drop k))) (ws.drop k) o)) from pform_any ⟨#[]⟩ deep [⟨#[40]⟩, ⟨#[69, 88, 80, 82]⟩, ⟨#[41]⟩] w2.heap.size hE (HT.out.next HS2.out) hN hD (pa_new w2 [⟨#[40]⟩, ⟨#[69, 88, 80, 82]⟩, ⟨#[41]⟩]) (by have := HP.out.pl; omega) (by decide) ⟨_, rfl, by decide⟩ hg (ne_all (by decide)) (HP.out.next HS2.out))
      have HB2 := hid (HB.out.next HS2.out)
      have HG2 := hid (HG.out.below HS2.out)
      have WS2 := hid (Nat.lt_of_lt_of_le WS.out HS2.out.size)
      rw [hRF] at HC
      clear hRF RX
      obtain ⟨rt, rl, ro⟩ := RF
      go_upto_region 8 with (go_at_call 63; with_reducible refine Calls.mono (HC.out) ?_; rintro e w5 h5; obtain ⟨g5, k', t, sa, sm, sc, ok, hk, hk2, hl, p5, rfl, hok, nv, ht⟩ := h5.parts; have HK2 := hid hk2; clear hk2; have HR5 := hid (HB2.out.gr g5 (by omega)); have HP5 := hid p5; have HG5 := hid (HG2.out.trans g5); have HN5 := hid nv; have HT5 := hid ht; have HL5 := hid hl; have HO5 := hid hok; have WS5 := hid (Nat.lt_of_lt_of_le WS2.out g5.size); clear h5 g5 p5 nv ht hl hok)
      have HS6 := hid (show Below w5.heap.size w5 (w5.alloc (.cells #[.string t.op, .string t.name, .int .i64 (t.kind : Nat), .int .i64 t.n, .int .i64 (t.pl : Nat), .slice sa sm sc] 26)) from (Below.refl _ _).alloc (Nat.le_refl _) _)
      have B6n := hid (B6.new w5 26 (.string t.op) (.string t.name) (.int .i64 (t.kind : Nat)) (.int .i64 t.n) (.int .i64 (t.pl : Nat)) (.slice sa sm sc))
      have HP6 := hid (HP5.out.next HS6.out)
      have HG6 := hid (HG5.out.below HS6.out)
      have HB6 := hid (HR5.out.next HS6.out)
      have HN6 := hid ((HN5.out.next HS6.out).weak (m := w.heap.size + 1) (by have := WS2.out; omega))
      generalize World.alloc w5 _ = w6 at *
      generalize w5.heap.size = gb at *
      clear HS6 HP5 HG5 HR5 HN5 HC HB2 HG2 HB HG HP
      obtain ⟨b0, b1, b2, b3, b4, b5, _⟩ := B6n.out
      obtain ⟨r0, r1, r2, r3, r4, r5, rz⟩ := HB6.out
      have HL5 := HL5.out
      have HL5 : rl = ws.drop k' := HL5
      subst HL5
      cases rt with
      | none =>
        have ok0 : ok = false := HO5.out.symm
        subst ok0
        have LR := hid (show R = ⟨none, ws.drop k', ro⟩ from RX'.out)
        have BF := hid (HB6.out.sets (.string ⟨#[]⟩) (.string ⟨#[]⟩) (.int .i64 0) (.int .i64 0) (.int .i64 0) (.slice none 0 0))
        have PF := hid (HP6.out.put6 (q := w.heap.size) (by omega) (by omega) (.string ⟨#[]⟩) (.string ⟨#[]⟩) (.int .i64 0) (.int .i64 0) (.int .i64 0) (.slice none 0 0))
        have GF := hid (HG6.out.put6 (q := w.heap.size) (by omega) (.string ⟨#[]⟩) (.string ⟨#[]⟩) (.int .i64 0) (.int .i64 0) (.int .i64 0) (.slice none 0 0))
        go_wp2_with fail
        generalize World.setCell _ ⟨w.heap.size, 5, none⟩ _ = w9 at *
        obtain ⟨f0, f1, f2, f3, f4, f5, _⟩ := BF.out
        exact bodyPost_ret (v := .tuple #[.agg #[.string ⟨#[]⟩, .string ⟨#[]⟩, .int .i64 0, .int .i64 0, .int .i64 0, .slice none 0 0], .bool false]) (by simp [results, Tryz.results137, go_sem, f0, f1, f2, f3, f4, f5]) rfl (Rp.no hk LR.out GF.out PF.out (Nv.leaf ⟨#[]⟩ ⟨#[]⟩ 0 0 0))
      | some t0 =>
        have ok1 : ok = true := HO5.out.symm
        subst ok1
        obtain rfl : t = t0 := HT5.out t0 rfl
        obtain ⟨t1, ht1⟩ := OK1.out t rfl
        have LR := hid (show R = ⟨some t1, ws.drop k', ro⟩ from by rw [RX'.out]; show (⟨t.kids.head?, _, _⟩ : Rs) = _; rw [ht1]; rfl)
        rw [ht1] at HN6
        obtain ⟨gk, ck, sl1, e1, nc1, nd1⟩ := HN6.out.uncons
        obtain ⟨sa1, sm1, sc1, rfl⟩ := nd1.sl
        injection e1 with e1 e2 e3
        subst e1 e2 e3
        have gne : gk ≠ w.heap.size := by have := nc1.2; omega
        obtain ⟨m0, m1, m2, m3, m4, m5⟩ := nc1.1
        have ND1 := hid nd1
        clear HN6 nd1
        have BF := hid (HB6.out.sets (.string t1.op) (.string t1.name) (.int .i64 (t1.kind : Nat)) (.int .i64 t1.n) (.int .i64 (t1.pl : Nat)) (.slice sa1 sm1 sc1))
        have PF := hid (HP6.out.put6 (q := w.heap.size) (by omega) (by omega) (.string t1.op) (.string t1.name) (.int .i64 (t1.kind : Nat)) (.int .i64 t1.n) (.int .i64 (t1.pl : Nat)) (.slice sa1 sm1 sc1))
        have GF := hid (HG6.out.put6 (q := w.heap.size) (by omega) (.string t1.op) (.string t1.name) (.int .i64 (t1.kind : Nat)) (.int .i64 t1.n) (.int .i64 (t1.pl : Nat)) (.slice sa1 sm1 sc1))
        have NF := hid (ND1.out.put6w (q := w.heap.size) (m := w.heap.size) (by omega) (.string t1.op) (.string t1.name) (.int .i64 (t1.kind : Nat)) (.int .i64 t1.n) (.int .i64 (t1.pl : Nat)) (.slice sa1 sm1 sc1))
        go_wp2_with fail
        generalize World.setCell _ ⟨w.heap.size, 5, none⟩ _ = w9 at *
        obtain ⟨f0, f1, f2, f3, f4, f5, _⟩ := BF.out
        exact bodyPost_ret (v := .tuple #[.agg #[.string t1.op, .string t1.name, .int .i64 (t1.kind : Nat), .int .i64 t1.n, .int .i64 (t1.pl : Nat), .slice sa1 sm1 sc1], .bool true]) (by simp [results, Tryz.results137, go_sem, f0, f1, f2, f3, f4, f5]) rfl (Rp.yes (by first | exact HK2.out rfl | exact HK2.out trivial) LR.out GF.out PF.out ⟨_, rfl, NF.out⟩)
end Go.Proofs.YtiikdmnmfmfpdaaGreatDoor

namespace Go.Proofs.YtiikdmnmfmfpdaaGreatDoor
open Go.RowKit
set_option linter.unusedVariables false
set_option linter.unusedSimpArgs false

set_option maxRecDepth 100000 in
set_option maxHeartbeats 4000000 in
theorem pexpr_any {w : World} {p b c : Nat} {ws : List Wo} {k : Nat} {o : Option Nat} (deep : Nat) {U E : Ex} {N : Nat} (hE : EC E N p b c ws) (hT : KT w) (hN : ws.length - k ≤ N) (hD : deep + (ws.length - k) ≤ 10000) (hg : 1 ≠ p)
    (hB : ∀ (w : World) (o : Option Nat), Ps w p b c ws k o → KT w → Calls Tryz.prog 115 #[.pointer (some ⟨p, 0, none⟩), .int .i64 0, .int .i64 (deep : Nat)] w fun e w' => Rp w w' p b c ws k e (binF (unF U E deep) 5 (ws.drop k) o)) (h : Ps w p b c ws k o) :
    Calls Tryz.prog 108 #[.pointer (some ⟨p, 0, none⟩), .int .i64 (deep : Nat)] w fun e w' => Rp w w' p b c ws k e (exprF U E deep (ws.drop k) o) := by
  have rp := h.pl
  have rb := h.bl
  have HB := hid (B6.new w 26 (.string ⟨#[]⟩) (.string ⟨#[]⟩) (.int .i64 0) (.int .i64 0) (.int .i64 0) (.slice none 0 0))
  have HS0 : Hid (Below w.heap.size w (w.alloc (.cells #[.string ⟨#[]⟩, .string ⟨#[]⟩, .int .i64 0, .int .i64 0, .int .i64 0, .slice none 0 0] 26))) := (Below.refl _ _).alloc (Nat.le_refl _) _
  have HP := hid (h.next HS0.out)
  have HG := hid ((Gr.refl w p).below HS0.out)
  have WS := hid (show w.heap.size < (w.alloc (.cells #[.string ⟨#[]⟩, .string ⟨#[]⟩, .int .i64 0, .int .i64 0, .int .i64 0, .slice none 0 0] 26)).heap.size from by simp)
  have HT := hid (hT.next HS0.out)
  have hd : (deep : Int) ≤ 10000 := by omega
  have EH := hid hE
  have BH := hid hB
  obtain ⟨o2, ho2⟩ : ∃ o2, (if 40 < deep then passO o (ws.drop k) else o) = o2 := ⟨_, rfl⟩
  have RX := hid (show exprF U E deep (ws.drop k) o = if eqB (tw (ws.drop k)) ⟨#[105, 102]⟩ = true then formF E deep [sIf, sEXPR, sThen, sEXPR, sElse, sEXPR] (op0 sIf (aw (ws.drop k))) (ws.drop k) o2 else binF (unF U E deep) 5 (ws.drop k) o2 from by unfold exprF; rw [ho2]; rfl)
  obtain ⟨R, hR⟩ : ∃ R, exprF U E deep (ws.drop k) o = R := ⟨_, rfl⟩
  rw [hR] at RX ⊢
  have O2 := hid ho2
  clear h hT hB hR ho2
  go_enter Tryz.func108, Tryz.ntmps108
  go_upto_region 1 with fail
  generalize World.alloc w _ = w1 at *
  by_cases z : 40 < deep
  · have z' : 40 < (deep : Int) := by omega
    have PA := hid (pass_any HP.out)
    rw [show passO o (ws.drop k) = o2 from by rw [← O2.out, if_pos z]] at PA
    go_upto_region 3 with (go_at_call 91; with_reducible refine Calls.mono PA.out ?_; rintro e w2 ⟨rfl, p2, g2⟩; replace HP := hid p2; replace HG := hid (HG.out.trans g2); replace HB := hid (HB.out.gr g2 (by omega)); replace WS := hid (Nat.lt_of_lt_of_le WS.out g2.size); replace HT := hid (HT.out.gr g2 hg); clear p2 g2)
    have IC := hid (is_any HP.out ⟨#[105, 102]⟩)
    cases y : eqB (tw (ws.drop k)) ⟨#[105, 102]⟩
    · rw [y] at IC RX
      have RX' := RX.out
      subst RX'
      go_upto_region 5 with (go_at_call 90; with_reducible refine Calls.mono IC.out ?_; rintro e w3 ⟨rfl, b3⟩; have HP3 := hid (HP.out.next b3); have HG3 := hid (HG.out.below b3); have HB3 := hid (HB.out.next b3); have WS3 := hid (Nat.lt_of_lt_of_le WS.out b3.size); have HT3 := hid (HT.out.next b3); clear b3)
      have HC := hid (BH.out _ _ HP3.out HT3.out)
      go_wp2_with (go_at_call 115; with_reducible refine Calls.mono (HC.out) ?_; rintro e w5 h5; obtain ⟨g5, k', t, sa, sm, sc, ok, hk, hk2, hl, p5, rfl, hok, nv, ht⟩ := h5.parts; have HK2 := hid hk2; clear hk2; have HR5 := hid (HB3.out.gr g5 (by omega)); have HP5 := hid p5; have HG5 := hid (HG3.out.trans g5); have HN5 := hid nv; have HT5 := hid ht; have HL5 := hid hl; have HO5 := hid hok; clear h5 g5 p5 nv ht hl hok; obtain ⟨r0, r1, r2, r3, r4, r5, rz⟩ := HR5.out; have BF := hid (HR5.out.sets (.string t.op) (.string t.name) (.int .i64 (t.kind : Nat)) (.int .i64 t.n) (.int .i64 (t.pl : Nat)) (.slice sa sm sc)); have PF := hid (HP5.out.put6 (q := w.heap.size) (by omega) (by omega) (.string t.op) (.string t.name) (.int .i64 (t.kind : Nat)) (.int .i64 t.n) (.int .i64 (t.pl : Nat)) (.slice sa sm sc)); have GF := hid (HG5.out.put6 (q := w.heap.size) (by omega) (.string t.op) (.string t.name) (.int .i64 (t.kind : Nat)) (.int .i64 t.n) (.int .i64 (t.pl : Nat)) (.slice sa sm sc)); have NF := hid (HN5.out.put6w (q := w.heap.size) (m := w.heap.size) (by have := WS3.out; omega) (.string t.op) (.string t.name) (.int .i64 (t.kind : Nat)) (.int .i64 t.n) (.int .i64 (t.pl : Nat)) (.slice sa sm sc)))
      generalize World.setCell _ ⟨w.heap.size, 5, none⟩ _ = w6 at *
      obtain ⟨f0, f1, f2, f3, f4, f5, _⟩ := BF.out
      exact bodyPost_ret (v := .tuple #[.agg #[.string t.op, .string t.name, .int .i64 (t.kind : Nat), .int .i64 t.n, .int .i64 (t.pl : Nat), .slice sa sm sc], .bool ok]) (by simp [results, Tryz.results108, go_sem, f0, f1, f2, f3, f4, f5]) rfl (⟨GF.out, k', _, hk, fun e => HK2.out (by rw [← HO5.out]; exact e), HL5.out, PF.out, congrArg (fun x => Ending.returned (.tuple #[.agg #[.string t.op, .string t.name, .int .i64 (t.kind : Nat), .int .i64 t.n, .int .i64 (t.pl : Nat), .slice sa sm sc], .bool x])) HO5.out.symm, t, ⟨_, rfl, NF.out⟩, HT5.out⟩)
    · rw [y] at IC RX
      have RX' := RX.out
      subst RX'
      go_upto_region 4 with (go_at_call 90; with_reducible refine Calls.mono IC.out ?_; rintro e w3 ⟨rfl, b3⟩; have HP3 := hid (HP.out.next b3); replace HG := hid (HG.out.below b3); replace HB := hid (HB.out.next b3); replace WS := hid (Nat.lt_of_lt_of_le WS.out b3.size); have HT3 := hid (HT.out.next b3); clear b3)
      have HS2 := hid (show Below w3.heap.size w3 (w3.alloc (.cells #[.string ⟨#[105, 102]⟩, .string ⟨#[69, 88, 80, 82]⟩, .string ⟨#[116, 104, 101, 110]⟩, .string ⟨#[69, 88, 80, 82]⟩, .string ⟨#[101, 108, 115, 101]⟩, .string ⟨#[69, 88, 80, 82]⟩] 9)) from (Below.refl _ _).alloc (Nat.le_refl _) _)
      have HC := hid (show Calls Tryz.prog 63 #[.pointer (some ⟨p, 0, none⟩), .string ⟨#[105, 102]⟩, .int .i64 (deep : Nat), .slice (some ⟨w3.heap.size, 0, none⟩) 6 6] (w3.alloc (.cells #[.string ⟨#[105, 102]⟩, .string ⟨#[69, 88, 80, 82]⟩, .string ⟨#[116, 104, 101, 110]⟩, .string ⟨#[69, 88, 80, 82]⟩, .string ⟨#[101, 108, 115, 101]⟩, .string ⟨#[69, 88, 80, 82]⟩] 9)) (fun e w' => Rp (w3.alloc (.cells #[.string ⟨#[105, 102]⟩, .string ⟨#[69, 88, 80, 82]⟩, .string ⟨#[116, 104, 101, 110]⟩, .string ⟨#[69, 88, 80, 82]⟩, .string ⟨#[101, 108, 115, 101]⟩, .string ⟨#[69, 88, 80, 82]⟩] 9)) w' p b c ws k e (formF E deep [⟨#[105, 102]⟩, ⟨#[69, 88, 80, 82]⟩, ⟨#[116, 104, 101, 110]⟩, ⟨#[69, 88, 80, 82]⟩, ⟨#[101, 108, 115, 101]⟩, ⟨#[69, 88, 80, 82]⟩] (op0 ⟨#[105, 102]⟩ (aw (ws.drop k))) (ws.drop k) o2)) from pform_any ⟨#[105, 102]⟩ deep [⟨#[105, 102]⟩, ⟨#[69, 88, 80, 82]⟩, ⟨#[116, 104, 101, 110]⟩, ⟨#[69, 88, 80, 82]⟩, ⟨#[101, 108, 115, 101]⟩, ⟨#[69, 88, 80, 82]⟩] w3.heap.size hE (HT3.out.next HS2.out) hN hD (pa_new w3 [⟨#[105, 102]⟩, ⟨#[69, 88, 80, 82]⟩, ⟨#[116, 104, 101, 110]⟩, ⟨#[69, 88, 80, 82]⟩, ⟨#[101, 108, 115, 101]⟩, ⟨#[69, 88, 80, 82]⟩]) (by have := HP3.out.pl; omega) (by decide) ⟨_, rfl, by decide⟩ hg (ne_all (by decide)) (HP3.out.next HS2.out))
      have HB2 := hid (HB.out.next HS2.out)
      have HG2 := hid (HG.out.below HS2.out)
      have WS2 := hid (Nat.lt_of_lt_of_le WS.out HS2.out.size)
      go_wp2_with (go_at_call 63; with_reducible refine Calls.mono (HC.out) ?_; rintro e w5 h5; obtain ⟨g5, k', t, sa, sm, sc, ok, hk, hk2, hl, p5, rfl, hok, nv, ht⟩ := h5.parts; have HK2 := hid hk2; clear hk2; have HR5 := hid (HB2.out.gr g5 (by omega)); have HP5 := hid p5; have HG5 := hid (HG2.out.trans g5); have HN5 := hid nv; have HT5 := hid ht; have HL5 := hid hl; have HO5 := hid hok; clear h5 g5 p5 nv ht hl hok; obtain ⟨r0, r1, r2, r3, r4, r5, rz⟩ := HR5.out; have BF := hid (HR5.out.sets (.string t.op) (.string t.name) (.int .i64 (t.kind : Nat)) (.int .i64 t.n) (.int .i64 (t.pl : Nat)) (.slice sa sm sc)); have PF := hid (HP5.out.put6 (q := w.heap.size) (by omega) (by omega) (.string t.op) (.string t.name) (.int .i64 (t.kind : Nat)) (.int .i64 t.n) (.int .i64 (t.pl : Nat)) (.slice sa sm sc)); have GF := hid (HG5.out.put6 (q := w.heap.size) (by omega) (.string t.op) (.string t.name) (.int .i64 (t.kind : Nat)) (.int .i64 t.n) (.int .i64 (t.pl : Nat)) (.slice sa sm sc)); have NF := hid (HN5.out.put6w (q := w.heap.size) (m := w.heap.size) (by have := WS2.out; omega) (.string t.op) (.string t.name) (.int .i64 (t.kind : Nat)) (.int .i64 t.n) (.int .i64 (t.pl : Nat)) (.slice sa sm sc)))
      generalize World.setCell _ ⟨w.heap.size, 5, none⟩ _ = w6 at *
      obtain ⟨f0, f1, f2, f3, f4, f5, _⟩ := BF.out
      exact bodyPost_ret (v := .tuple #[.agg #[.string t.op, .string t.name, .int .i64 (t.kind : Nat), .int .i64 t.n, .int .i64 (t.pl : Nat), .slice sa sm sc], .bool ok]) (by simp [results, Tryz.results108, go_sem, f0, f1, f2, f3, f4, f5]) rfl (⟨GF.out, k', _, hk, fun e => HK2.out (by rw [← HO5.out]; exact e), HL5.out, PF.out, congrArg (fun x => Ending.returned (.tuple #[.agg #[.string t.op, .string t.name, .int .i64 (t.kind : Nat), .int .i64 t.n, .int .i64 (t.pl : Nat), .slice sa sm sc], .bool x])) HO5.out.symm, t, ⟨_, rfl, NF.out⟩, HT5.out⟩)
  · have z' : ¬ 40 < (deep : Int) := by omega
    have eo : o = o2 := by rw [← O2.out, if_neg z]
    subst eo
    go_upto_region 3 with fail
    have IC := hid (is_any HP.out ⟨#[105, 102]⟩)
    cases y : eqB (tw (ws.drop k)) ⟨#[105, 102]⟩
    · rw [y] at IC RX
      have RX' := RX.out
      subst RX'
      go_upto_region 5 with (go_at_call 90; with_reducible refine Calls.mono IC.out ?_; rintro e w3 ⟨rfl, b3⟩; have HP3 := hid (HP.out.next b3); have HG3 := hid (HG.out.below b3); have HB3 := hid (HB.out.next b3); have WS3 := hid (Nat.lt_of_lt_of_le WS.out b3.size); have HT3 := hid (HT.out.next b3); clear b3)
      have HC := hid (BH.out _ _ HP3.out HT3.out)
      go_wp2_with (go_at_call 115; with_reducible refine Calls.mono (HC.out) ?_; rintro e w5 h5; obtain ⟨g5, k', t, sa, sm, sc, ok, hk, hk2, hl, p5, rfl, hok, nv, ht⟩ := h5.parts; have HK2 := hid hk2; clear hk2; have HR5 := hid (HB3.out.gr g5 (by omega)); have HP5 := hid p5; have HG5 := hid (HG3.out.trans g5); have HN5 := hid nv; have HT5 := hid ht; have HL5 := hid hl; have HO5 := hid hok; clear h5 g5 p5 nv ht hl hok; obtain ⟨r0, r1, r2, r3, r4, r5, rz⟩ := HR5.out; have BF := hid (HR5.out.sets (.string t.op) (.string t.name) (.int .i64 (t.kind : Nat)) (.int .i64 t.n) (.int .i64 (t.pl : Nat)) (.slice sa sm sc)); have PF := hid (HP5.out.put6 (q := w.heap.size) (by omega) (by omega) (.string t.op) (.string t.name) (.int .i64 (t.kind : Nat)) (.int .i64 t.n) (.int .i64 (t.pl : Nat)) (.slice sa sm sc)); have GF := hid (HG5.out.put6 (q := w.heap.size) (by omega) (.string t.op) (.string t.name) (.int .i64 (t.kind : Nat)) (.int .i64 t.n) (.int .i64 (t.pl : Nat)) (.slice sa sm sc)); have NF := hid (HN5.out.put6w (q := w.heap.size) (m := w.heap.size) (by have := WS3.out; omega) (.string t.op) (.string t.name) (.int .i64 (t.kind : Nat)) (.int .i64 t.n) (.int .i64 (t.pl : Nat)) (.slice sa sm sc)))
      generalize World.setCell _ ⟨w.heap.size, 5, none⟩ _ = w6 at *
      obtain ⟨f0, f1, f2, f3, f4, f5, _⟩ := BF.out
      exact bodyPost_ret (v := .tuple #[.agg #[.string t.op, .string t.name, .int .i64 (t.kind : Nat), .int .i64 t.n, .int .i64 (t.pl : Nat), .slice sa sm sc], .bool ok]) (by simp [results, Tryz.results108, go_sem, f0, f1, f2, f3, f4, f5]) rfl (⟨GF.out, k', _, hk, fun e => HK2.out (by rw [← HO5.out]; exact e), HL5.out, PF.out, congrArg (fun x => Ending.returned (.tuple #[.agg #[.string t.op, .string t.name, .int .i64 (t.kind : Nat), .int .i64 t.n, .int .i64 (t.pl : Nat), .slice sa sm sc], .bool x])) HO5.out.symm, t, ⟨_, rfl, NF.out⟩, HT5.out⟩)
    · rw [y] at IC RX
      have RX' := RX.out
      subst RX'
      go_upto_region 4 with (go_at_call 90; with_reducible refine Calls.mono IC.out ?_; rintro e w3 ⟨rfl, b3⟩; have HP3 := hid (HP.out.next b3); replace HG := hid (HG.out.below b3); replace HB := hid (HB.out.next b3); replace WS := hid (Nat.lt_of_lt_of_le WS.out b3.size); have HT3 := hid (HT.out.next b3); clear b3)
      have HS2 := hid (show Below w3.heap.size w3 (w3.alloc (.cells #[.string ⟨#[105, 102]⟩, .string ⟨#[69, 88, 80, 82]⟩, .string ⟨#[116, 104, 101, 110]⟩, .string ⟨#[69, 88, 80, 82]⟩, .string ⟨#[101, 108, 115, 101]⟩, .string ⟨#[69, 88, 80, 82]⟩] 9)) from (Below.refl _ _).alloc (Nat.le_refl _) _)
      have HC := hid (show Calls Tryz.prog 63 #[.pointer (some ⟨p, 0, none⟩), .string ⟨#[105, 102]⟩, .int .i64 (deep : Nat), .slice (some ⟨w3.heap.size, 0, none⟩) 6 6] (w3.alloc (.cells #[.string ⟨#[105, 102]⟩, .string ⟨#[69, 88, 80, 82]⟩, .string ⟨#[116, 104, 101, 110]⟩, .string ⟨#[69, 88, 80, 82]⟩, .string ⟨#[101, 108, 115, 101]⟩, .string ⟨#[69, 88, 80, 82]⟩] 9)) (fun e w' => Rp (w3.alloc (.cells #[.string ⟨#[105, 102]⟩, .string ⟨#[69, 88, 80, 82]⟩, .string ⟨#[116, 104, 101, 110]⟩, .string ⟨#[69, 88, 80, 82]⟩, .string ⟨#[101, 108, 115, 101]⟩, .string ⟨#[69, 88, 80, 82]⟩] 9)) w' p b c ws k e (formF E deep [⟨#[105, 102]⟩, ⟨#[69, 88, 80, 82]⟩, ⟨#[116, 104, 101, 110]⟩, ⟨#[69, 88, 80, 82]⟩, ⟨#[101, 108, 115, 101]⟩, ⟨#[69, 88, 80, 82]⟩] (op0 ⟨#[105, 102]⟩ (aw (ws.drop k))) (ws.drop k) o)) from pform_any ⟨#[105, 102]⟩ deep [⟨#[105, 102]⟩, ⟨#[69, 88, 80, 82]⟩, ⟨#[116, 104, 101, 110]⟩, ⟨#[69, 88, 80, 82]⟩, ⟨#[101, 108, 115, 101]⟩, ⟨#[69, 88, 80, 82]⟩] w3.heap.size hE (HT3.out.next HS2.out) hN hD (pa_new w3 [⟨#[105, 102]⟩, ⟨#[69, 88, 80, 82]⟩, ⟨#[116, 104, 101, 110]⟩, ⟨#[69, 88, 80, 82]⟩, ⟨#[101, 108, 115, 101]⟩, ⟨#[69, 88, 80, 82]⟩]) (by have := HP3.out.pl; omega) (by decide) ⟨_, rfl, by decide⟩ hg (ne_all (by decide)) (HP3.out.next HS2.out))
      have HB2 := hid (HB.out.next HS2.out)
      have HG2 := hid (HG.out.below HS2.out)
      have WS2 := hid (Nat.lt_of_lt_of_le WS.out HS2.out.size)
      go_wp2_with (go_at_call 63; with_reducible refine Calls.mono (HC.out) ?_; rintro e w5 h5; obtain ⟨g5, k', t, sa, sm, sc, ok, hk, hk2, hl, p5, rfl, hok, nv, ht⟩ := h5.parts; have HK2 := hid hk2; clear hk2; have HR5 := hid (HB2.out.gr g5 (by omega)); have HP5 := hid p5; have HG5 := hid (HG2.out.trans g5); have HN5 := hid nv; have HT5 := hid ht; have HL5 := hid hl; have HO5 := hid hok; clear h5 g5 p5 nv ht hl hok; obtain ⟨r0, r1, r2, r3, r4, r5, rz⟩ := HR5.out; have BF := hid (HR5.out.sets (.string t.op) (.string t.name) (.int .i64 (t.kind : Nat)) (.int .i64 t.n) (.int .i64 (t.pl : Nat)) (.slice sa sm sc)); have PF := hid (HP5.out.put6 (q := w.heap.size) (by omega) (by omega) (.string t.op) (.string t.name) (.int .i64 (t.kind : Nat)) (.int .i64 t.n) (.int .i64 (t.pl : Nat)) (.slice sa sm sc)); have GF := hid (HG5.out.put6 (q := w.heap.size) (by omega) (.string t.op) (.string t.name) (.int .i64 (t.kind : Nat)) (.int .i64 t.n) (.int .i64 (t.pl : Nat)) (.slice sa sm sc)); have NF := hid (HN5.out.put6w (q := w.heap.size) (m := w.heap.size) (by have := WS2.out; omega) (.string t.op) (.string t.name) (.int .i64 (t.kind : Nat)) (.int .i64 t.n) (.int .i64 (t.pl : Nat)) (.slice sa sm sc)))
      generalize World.setCell _ ⟨w.heap.size, 5, none⟩ _ = w6 at *
      obtain ⟨f0, f1, f2, f3, f4, f5, _⟩ := BF.out
      exact bodyPost_ret (v := .tuple #[.agg #[.string t.op, .string t.name, .int .i64 (t.kind : Nat), .int .i64 t.n, .int .i64 (t.pl : Nat), .slice sa sm sc], .bool ok]) (by simp [results, Tryz.results108, go_sem, f0, f1, f2, f3, f4, f5]) rfl (⟨GF.out, k', _, hk, fun e => HK2.out (by rw [← HO5.out]; exact e), HL5.out, PF.out, congrArg (fun x => Ending.returned (.tuple #[.agg #[.string t.op, .string t.name, .int .i64 (t.kind : Nat), .int .i64 t.n, .int .i64 (t.pl : Nat), .slice sa sm sc], .bool x])) HO5.out.symm, t, ⟨_, rfl, NF.out⟩, HT5.out⟩)

end Go.Proofs.YtiikdmnmfmfpdaaGreatDoor

namespace Go.Proofs.YtiikdmnmfmfpdaaGreatDoor
open Go.RowKit
set_option linter.unusedVariables false
set_option linter.unusedSimpArgs false

set_option maxRecDepth 100000 in
set_option maxHeartbeats 2000000 in
theorem pbin_top {w : World} {p b c : Nat} {ws : List Wo} {k : Nat} {o : Option Nat} (deep : Nat) (R : Rs) (hT : KT w)
    (hB : ∀ (w : World), Ps w p b c ws k o → KT w → Calls Tryz.prog 127 #[.pointer (some ⟨p, 0, none⟩), .int .i64 (deep : Nat)] w fun e w' => Rp w w' p b c ws k e R) (h : Ps w p b c ws k o) :
    Calls Tryz.prog 115 #[.pointer (some ⟨p, 0, none⟩), .int .i64 5, .int .i64 (deep : Nat)] w fun e w' => Rp w w' p b c ws k e R := by
  have rp := h.pl
  have rb := h.bl
  have HB := hid (B6.new w 26 (.string ⟨#[]⟩) (.string ⟨#[]⟩) (.int .i64 0) (.int .i64 0) (.int .i64 0) (.slice none 0 0))
  have HS0 : Hid (Below w.heap.size w (w.alloc (.cells #[.string ⟨#[]⟩, .string ⟨#[]⟩, .int .i64 0, .int .i64 0, .int .i64 0, .slice none 0 0] 26))) := (Below.refl _ _).alloc (Nat.le_refl _) _
  have HP := hid (h.next HS0.out)
  have HG := hid ((Gr.refl w p).below HS0.out)
  have WS := hid (show w.heap.size < (w.alloc (.cells #[.string ⟨#[]⟩, .string ⟨#[]⟩, .int .i64 0, .int .i64 0, .int .i64 0, .slice none 0 0] 26)).heap.size from by simp)
  have HT := hid (hT.next HS0.out)
  have HC := hid (hB _ HP.out HT.out)
  clear h hT hB
  go_enter Tryz.func115, Tryz.ntmps115
  go_upto_region 2 with fail
  generalize World.alloc w _ = w1 at *
  go_wp2_with (go_at_call 127; with_reducible refine Calls.mono (HC.out) ?_; rintro e w5 h5; obtain ⟨g5, k', t, sa, sm, sc, ok, hk, hk2, hl, p5, rfl, hok, nv, ht⟩ := h5.parts; have HK2 := hid hk2; clear hk2; have HR5 := hid (HB.out.gr g5 (by omega)); have HP5 := hid p5; have HG5 := hid (HG.out.trans g5); have HN5 := hid nv; have HT5 := hid ht; have HL5 := hid hl; have HO5 := hid hok; clear h5 g5 p5 nv ht hl hok; obtain ⟨r0, r1, r2, r3, r4, r5, rz⟩ := HR5.out; have BF := hid (HR5.out.sets (.string t.op) (.string t.name) (.int .i64 (t.kind : Nat)) (.int .i64 t.n) (.int .i64 (t.pl : Nat)) (.slice sa sm sc)); have PF := hid (HP5.out.put6 (q := w.heap.size) (by omega) (by omega) (.string t.op) (.string t.name) (.int .i64 (t.kind : Nat)) (.int .i64 t.n) (.int .i64 (t.pl : Nat)) (.slice sa sm sc)); have GF := hid (HG5.out.put6 (q := w.heap.size) (by omega) (.string t.op) (.string t.name) (.int .i64 (t.kind : Nat)) (.int .i64 t.n) (.int .i64 (t.pl : Nat)) (.slice sa sm sc)); have NF := hid (HN5.out.put6w (q := w.heap.size) (m := w.heap.size) (by have := WS.out; omega) (.string t.op) (.string t.name) (.int .i64 (t.kind : Nat)) (.int .i64 t.n) (.int .i64 (t.pl : Nat)) (.slice sa sm sc)))
  generalize World.setCell _ ⟨w.heap.size, 5, none⟩ _ = w6 at *
  obtain ⟨f0, f1, f2, f3, f4, f5, _⟩ := BF.out
  exact bodyPost_ret (v := .tuple #[.agg #[.string t.op, .string t.name, .int .i64 (t.kind : Nat), .int .i64 t.n, .int .i64 (t.pl : Nat), .slice sa sm sc], .bool ok]) (by simp [results, Tryz.results115, go_sem, f0, f1, f2, f3, f4, f5]) rfl (⟨GF.out, k', _, hk, fun e => HK2.out (by rw [← HO5.out]; exact e), HL5.out, PF.out, congrArg (fun x => Ending.returned (.tuple #[.agg #[.string t.op, .string t.name, .int .i64 (t.kind : Nat), .int .i64 t.n, .int .i64 (t.pl : Nat), .slice sa sm sc], .bool x])) HO5.out.symm, t, ⟨_, rfl, NF.out⟩, HT5.out⟩)

theorem binF_succ (U : List Wo → Option Nat → Rs) (m : Nat) (l : List Wo) (o : Option Nat) : binF U (m + 1) l o = binG (binF U m) (4 - m) l o := by
  unfold binG binR
  simp only [binF]
  generalize binF U m l o = r
  obtain ⟨t, l', o'⟩ := r
  cases t <;> rfl
theorem pbin_all {p b c : Nat} {ws : List Wo} (deep k0 : Nat) (V : List Wo → Option Nat → Rs) (hd : deep ≤ 10000) (hg : 1 ≠ p)
    (hV : ∀ (w : World) (k : Nat) (o : Option Nat), k0 ≤ k → Ps w p b c ws k o → KT w → Calls Tryz.prog 127 #[.pointer (some ⟨p, 0, none⟩), .int .i64 (deep : Nat)] w fun e w' => Rp w w' p b c ws k e (V (ws.drop k) o)) :
    ∀ (m : Nat), m ≤ 5 → ∀ (w : World) (k : Nat) (o : Option Nat), k0 ≤ k → Ps w p b c ws k o → KT w → Calls Tryz.prog 115 #[.pointer (some ⟨p, 0, none⟩), .int .i64 ((5 - m : Nat) : Int), .int .i64 (deep : Nat)] w fun e w' => Rp w w' p b c ws k e (binF V m (ws.drop k) o)
  | 0, _, w, k, o, hk, h, hT => pbin_top deep _ hT (fun w h hT => hV w k o hk h hT) h
  | m + 1, hm, w, k, o, hk, h, hT => by
    rw [binF_succ, show 5 - (m + 1) = 4 - m by omega]
    refine pbin_step (4 - m) deep (binF V m) (by omega) hd hT hg (fun w k' o hk' h hT => ?_) h
    have := pbin_all deep k0 V hd hg hV m (by omega) w k' o (by omega) h hT
    rw [show ((5 - m : Nat) : Int) = ((4 - m : Nat) : Int) + 1 by omega] at this
    exact this
theorem recs {p b c : Nat} {ws : List Wo} (hg : 1 ≠ p) : ∀ f, UC (recU f).1 f p b c ws ∧ EC (recU f).2 f p b c ws
  | 0 => ⟨fun w k deep o h hT hN hD => absurd hN (Nat.not_lt_zero _), fun w k deep o h hT hN hD => absurd hN (Nat.not_lt_zero _)⟩
  | f + 1 => by
    obtain ⟨hU, hE⟩ := recs hg f
    have un : ∀ (w : World) (k deep : Nat) (o : Option Nat), Ps w p b c ws k o → KT w → ws.length - k ≤ f → deep + (ws.length - k) ≤ 10000 → Calls Tryz.prog 127 #[.pointer (some ⟨p, 0, none⟩), .int .i64 (deep : Nat)] w fun e w' => Rp w w' p b c ws k e (unF (recU f).1 (recU f).2 deep (ws.drop k) o) :=
      fun w k deep o h hT hN hD => punary_any deep hU hT hN hD hg (fun w h hT => pprim_any deep hE hT hN hD hg h) h
    refine ⟨fun w k deep o h hT hN hD => un w k deep o h hT (by omega) hD, fun w k deep o h hT hN hD => ?_⟩
    refine pexpr_any deep hE hT (by omega) hD hg (fun w o h hT => ?_) h
    exact pbin_all deep k _ (by omega) hg (fun w k' o hk h hT => un w k' deep o h hT (by omega) (by omega)) 5 (Nat.le_refl _) w k o (Nat.le_refl _) h hT
end Go.Proofs.YtiikdmnmfmfpdaaGreatDoor

namespace Go.Proofs.YtiikdmnmfmfpdaaGreatDoor
open Go.RowKit
set_option linter.unusedVariables false
set_option linter.unusedSimpArgs false

set_option maxRecDepth 100000 in
set_option maxHeartbeats 2000000 in
theorem prow_any {w : World} {p b c : Nat} {ws : List Wo} {k : Nat} {o : Option Nat} (last : Bool) (hT : KT w) (hg : 1 ≠ p) (h : Ps w p b c ws k o) :
    Calls Tryz.prog 92 #[.pointer (some ⟨p, 0, none⟩), .bool last] w fun e w' => Rp w w' p b c ws k e (rowF last (ws.drop k) o) := by
  have rp := h.pl
  have rb := h.bl
  have HB := hid (B6.new w 26 (.string ⟨#[]⟩) (.string ⟨#[]⟩) (.int .i64 0) (.int .i64 0) (.int .i64 0) (.slice none 0 0))
  have HS0 : Hid (Below w.heap.size w (w.alloc (.cells #[.string ⟨#[]⟩, .string ⟨#[]⟩, .int .i64 0, .int .i64 0, .int .i64 0, .slice none 0 0] 26))) := (Below.refl _ _).alloc (Nat.le_refl _) _
  have HP := hid (h.next HS0.out)
  have HG := hid ((Gr.refl w p).below HS0.out)
  have WS := hid (show w.heap.size < (w.alloc (.cells #[.string ⟨#[]⟩, .string ⟨#[]⟩, .int .i64 0, .int .i64 0, .int .i64 0, .slice none 0 0] 26)).heap.size from by simp)
  have HT := hid (hT.next HS0.out)
  have ln := h.len
  clear h hT
  cases last with
  | false =>
    show Calls _ _ _ _ fun e w' => Rp w w' p b c ws k e (formF (recU (ws.drop k).length).2 0 [⟨#[76, 73, 84]⟩, ⟨#[58]⟩, ⟨#[76, 73, 84]⟩, ⟨#[44]⟩] (op0 ⟨#[114, 111, 119]⟩ (aw (ws.drop k))) (ws.drop k) o)
    go_enter Tryz.func92, Tryz.ntmps92
    go_upto_region 1 with fail
    generalize World.alloc w _ = w1 at *
    go_upto_region 3 with fail
    have HS2 := hid (show Below w1.heap.size w1 (w1.alloc (.cells #[.string ⟨#[76, 73, 84]⟩, .string ⟨#[58]⟩, .string ⟨#[76, 73, 84]⟩, .string ⟨#[44]⟩] 9)) from (Below.refl _ _).alloc (Nat.le_refl _) _)
    have HC := hid (show Calls Tryz.prog 63 #[.pointer (some ⟨p, 0, none⟩), .string ⟨#[114, 111, 119]⟩, .int .i64 0, .slice (some ⟨w1.heap.size, 0, none⟩) 4 4] (w1.alloc (.cells #[.string ⟨#[76, 73, 84]⟩, .string ⟨#[58]⟩, .string ⟨#[76, 73, 84]⟩, .string ⟨#[44]⟩] 9)) (fun e w' => Rp (w1.alloc (.cells #[.string ⟨#[76, 73, 84]⟩, .string ⟨#[58]⟩, .string ⟨#[76, 73, 84]⟩, .string ⟨#[44]⟩] 9)) w' p b c ws k e (formF (recU (ws.drop k).length).2 0 [⟨#[76, 73, 84]⟩, ⟨#[58]⟩, ⟨#[76, 73, 84]⟩, ⟨#[44]⟩] (op0 ⟨#[114, 111, 119]⟩ (aw (ws.drop k))) (ws.drop k) o)) from pform_any ⟨#[114, 111, 119]⟩ 0 [⟨#[76, 73, 84]⟩, ⟨#[58]⟩, ⟨#[76, 73, 84]⟩, ⟨#[44]⟩] w1.heap.size (recs hg (ws.drop k).length).2 (HT.out.next HS2.out) (by rw [List.length_drop]; exact Nat.le_refl _) (by omega) (pa_new w1 [⟨#[76, 73, 84]⟩, ⟨#[58]⟩, ⟨#[76, 73, 84]⟩, ⟨#[44]⟩]) (by have := HP.out.pl; omega) (by decide) ⟨_, rfl, by decide⟩ hg (ne_all (by decide)) (HP.out.next HS2.out))
    have HB2 := hid (HB.out.next HS2.out)
    have HG2 := hid (HG.out.below HS2.out)
    have WS2 := hid (Nat.lt_of_lt_of_le WS.out HS2.out.size)
    go_wp2_with (go_at_call 63; with_reducible refine Calls.mono (HC.out) ?_; rintro e w5 h5; obtain ⟨g5, k', t, sa, sm, sc, ok, hk, hk2, hl, p5, rfl, hok, nv, ht⟩ := h5.parts; have HK2 := hid hk2; clear hk2; have HR5 := hid (HB2.out.gr g5 (by omega)); have HP5 := hid p5; have HG5 := hid (HG2.out.trans g5); have HN5 := hid nv; have HT5 := hid ht; have HL5 := hid hl; have HO5 := hid hok; clear h5 g5 p5 nv ht hl hok; obtain ⟨r0, r1, r2, r3, r4, r5, rz⟩ := HR5.out; have BF := hid (HR5.out.sets (.string t.op) (.string t.name) (.int .i64 (t.kind : Nat)) (.int .i64 t.n) (.int .i64 (t.pl : Nat)) (.slice sa sm sc)); have PF := hid (HP5.out.put6 (q := w.heap.size) (by omega) (by omega) (.string t.op) (.string t.name) (.int .i64 (t.kind : Nat)) (.int .i64 t.n) (.int .i64 (t.pl : Nat)) (.slice sa sm sc)); have GF := hid (HG5.out.put6 (q := w.heap.size) (by omega) (.string t.op) (.string t.name) (.int .i64 (t.kind : Nat)) (.int .i64 t.n) (.int .i64 (t.pl : Nat)) (.slice sa sm sc)); have NF := hid (HN5.out.put6w (q := w.heap.size) (m := w.heap.size) (by have := WS2.out; omega) (.string t.op) (.string t.name) (.int .i64 (t.kind : Nat)) (.int .i64 t.n) (.int .i64 (t.pl : Nat)) (.slice sa sm sc)))
    generalize World.setCell _ ⟨w.heap.size, 5, none⟩ _ = w6 at *
    obtain ⟨f0, f1, f2, f3, f4, f5, _⟩ := BF.out
    exact bodyPost_ret (v := .tuple #[.agg #[.string t.op, .string t.name, .int .i64 (t.kind : Nat), .int .i64 t.n, .int .i64 (t.pl : Nat), .slice sa sm sc], .bool ok]) (by simp [results, Tryz.results92, go_sem, f0, f1, f2, f3, f4, f5]) rfl (⟨GF.out, k', _, hk, fun e => HK2.out (by rw [← HO5.out]; exact e), HL5.out, PF.out, congrArg (fun x => Ending.returned (.tuple #[.agg #[.string t.op, .string t.name, .int .i64 (t.kind : Nat), .int .i64 t.n, .int .i64 (t.pl : Nat), .slice sa sm sc], .bool x])) HO5.out.symm, t, ⟨_, rfl, NF.out⟩, HT5.out⟩)

  | true =>
    show Calls _ _ _ _ fun e w' => Rp w w' p b c ws k e (formF (recU (ws.drop k).length).2 0 [⟨#[101, 108, 115, 101]⟩, ⟨#[76, 73, 84]⟩] (op0 ⟨#[114, 111, 119]⟩ (aw (ws.drop k))) (ws.drop k) o)
    go_enter Tryz.func92, Tryz.ntmps92
    go_upto_region 1 with fail
    generalize World.alloc w _ = w1 at *
    go_upto_region 2 with fail
    have HS2 := hid (show Below w1.heap.size w1 (w1.alloc (.cells #[.string ⟨#[101, 108, 115, 101]⟩, .string ⟨#[76, 73, 84]⟩] 9)) from (Below.refl _ _).alloc (Nat.le_refl _) _)
    have HC := hid (show Calls Tryz.prog 63 #[.pointer (some ⟨p, 0, none⟩), .string ⟨#[114, 111, 119]⟩, .int .i64 0, .slice (some ⟨w1.heap.size, 0, none⟩) 2 2] (w1.alloc (.cells #[.string ⟨#[101, 108, 115, 101]⟩, .string ⟨#[76, 73, 84]⟩] 9)) (fun e w' => Rp (w1.alloc (.cells #[.string ⟨#[101, 108, 115, 101]⟩, .string ⟨#[76, 73, 84]⟩] 9)) w' p b c ws k e (formF (recU (ws.drop k).length).2 0 [⟨#[101, 108, 115, 101]⟩, ⟨#[76, 73, 84]⟩] (op0 ⟨#[114, 111, 119]⟩ (aw (ws.drop k))) (ws.drop k) o)) from pform_any ⟨#[114, 111, 119]⟩ 0 [⟨#[101, 108, 115, 101]⟩, ⟨#[76, 73, 84]⟩] w1.heap.size (recs hg (ws.drop k).length).2 (HT.out.next HS2.out) (by rw [List.length_drop]; exact Nat.le_refl _) (by omega) (pa_new w1 [⟨#[101, 108, 115, 101]⟩, ⟨#[76, 73, 84]⟩]) (by have := HP.out.pl; omega) (by decide) ⟨_, rfl, by decide⟩ hg (ne_all (by decide)) (HP.out.next HS2.out))
    have HB2 := hid (HB.out.next HS2.out)
    have HG2 := hid (HG.out.below HS2.out)
    have WS2 := hid (Nat.lt_of_lt_of_le WS.out HS2.out.size)
    go_wp2_with (go_at_call 63; with_reducible refine Calls.mono (HC.out) ?_; rintro e w5 h5; obtain ⟨g5, k', t, sa, sm, sc, ok, hk, hk2, hl, p5, rfl, hok, nv, ht⟩ := h5.parts; have HK2 := hid hk2; clear hk2; have HR5 := hid (HB2.out.gr g5 (by omega)); have HP5 := hid p5; have HG5 := hid (HG2.out.trans g5); have HN5 := hid nv; have HT5 := hid ht; have HL5 := hid hl; have HO5 := hid hok; clear h5 g5 p5 nv ht hl hok; obtain ⟨r0, r1, r2, r3, r4, r5, rz⟩ := HR5.out; have BF := hid (HR5.out.sets (.string t.op) (.string t.name) (.int .i64 (t.kind : Nat)) (.int .i64 t.n) (.int .i64 (t.pl : Nat)) (.slice sa sm sc)); have PF := hid (HP5.out.put6 (q := w.heap.size) (by omega) (by omega) (.string t.op) (.string t.name) (.int .i64 (t.kind : Nat)) (.int .i64 t.n) (.int .i64 (t.pl : Nat)) (.slice sa sm sc)); have GF := hid (HG5.out.put6 (q := w.heap.size) (by omega) (.string t.op) (.string t.name) (.int .i64 (t.kind : Nat)) (.int .i64 t.n) (.int .i64 (t.pl : Nat)) (.slice sa sm sc)); have NF := hid (HN5.out.put6w (q := w.heap.size) (m := w.heap.size) (by have := WS2.out; omega) (.string t.op) (.string t.name) (.int .i64 (t.kind : Nat)) (.int .i64 t.n) (.int .i64 (t.pl : Nat)) (.slice sa sm sc)))
    generalize World.setCell _ ⟨w.heap.size, 5, none⟩ _ = w6 at *
    obtain ⟨f0, f1, f2, f3, f4, f5, _⟩ := BF.out
    exact bodyPost_ret (v := .tuple #[.agg #[.string t.op, .string t.name, .int .i64 (t.kind : Nat), .int .i64 t.n, .int .i64 (t.pl : Nat), .slice sa sm sc], .bool ok]) (by simp [results, Tryz.results92, go_sem, f0, f1, f2, f3, f4, f5]) rfl (⟨GF.out, k', _, hk, fun e => HK2.out (by rw [← HO5.out]; exact e), HL5.out, PF.out, congrArg (fun x => Ending.returned (.tuple #[.agg #[.string t.op, .string t.name, .int .i64 (t.kind : Nat), .int .i64 t.n, .int .i64 (t.pl : Nat), .slice sa sm sc], .bool x])) HO5.out.symm, t, ⟨_, rfl, NF.out⟩, HT5.out⟩)

end Go.Proofs.YtiikdmnmfmfpdaaGreatDoor

namespace Go.Proofs.YtiikdmnmfmfpdaaGreatDoor
open Go.RowKit
set_option linter.unusedVariables false
set_option linter.unusedSimpArgs false

/-- What a call of table answers where that word stands. -/
def TC (ws : List Wo) : Prop := ∀ (w : World) (p b c k : Nat) (o : Option Nat), eqB (tw (ws.drop k)) ⟨#[116, 97, 98, 108, 101]⟩ = true → 1 ≠ p → Ps w p b c ws k o → KT w → Calls Tryz.prog 64 #[.pointer (some ⟨p, 0, none⟩)] w fun e w' => Rp w w' p b c ws k e (tableF (ws.drop k) o)
set_option maxRecDepth 100000 in
set_option maxHeartbeats 4000000 in
theorem pdecl_any {w : World} {p b c : Nat} {ws : List Wo} {k : Nat} {o : Option Nat} (hT : KT w) (hg : 1 ≠ p) (hC : TC ws) (h : Ps w p b c ws k o) :
    Calls Tryz.prog 30 #[.pointer (some ⟨p, 0, none⟩)] w fun e w' => Rp w w' p b c ws k e (declF (ws.drop k) o) := by
  have rp := h.pl
  have rb := h.bl
  have HB := hid (B6.new w 26 (.string ⟨#[]⟩) (.string ⟨#[]⟩) (.int .i64 0) (.int .i64 0) (.int .i64 0) (.slice none 0 0))
  have HS0 : Hid (Below w.heap.size w (w.alloc (.cells #[.string ⟨#[]⟩, .string ⟨#[]⟩, .int .i64 0, .int .i64 0, .int .i64 0, .slice none 0 0] 26))) := (Below.refl _ _).alloc (Nat.le_refl _) _
  have HP := hid (h.next HS0.out)
  have HG := hid ((Gr.refl w p).below HS0.out)
  have WS := hid (show w.heap.size < (w.alloc (.cells #[.string ⟨#[]⟩, .string ⟨#[]⟩, .int .i64 0, .int .i64 0, .int .i64 0, .slice none 0 0] 26)).heap.size from by simp)
  have HT := hid (hT.next HS0.out)
  have ln := h.len
  have CH := hid hC
  obtain ⟨x, cu⟩ := h.cur
  have XA := hid cu.at_
  obtain ⟨R, hR⟩ : ∃ R, declF (ws.drop k) o = R := ⟨_, rfl⟩
  have TX := hid (show tw (ws.drop k) = x.t from by rw [cu.dr]; rfl)
  have RX := hid (show R = if eqB x.t ⟨#[105, 110, 112, 117, 116]⟩ = true then formF (recU (ws.drop k).length).2 0 [⟨#[105, 110, 112, 117, 116]⟩, ⟨#[78, 65, 77, 69]⟩, ⟨#[75, 73, 78, 68]⟩, ⟨#[59]⟩] (op0 ⟨#[105, 110, 112, 117, 116]⟩ (aw (ws.drop k))) (ws.drop k) o
    else if eqB x.t ⟨#[114, 117, 108, 101]⟩ = true then formF (recU (ws.drop k).length).2 0 [⟨#[114, 117, 108, 101]⟩, ⟨#[78, 65, 77, 69]⟩, ⟨#[75, 73, 78, 68]⟩, ⟨#[61]⟩, ⟨#[69, 88, 80, 82]⟩, ⟨#[59]⟩] (op0 ⟨#[114, 117, 108, 101]⟩ (aw (ws.drop k))) (ws.drop k) o
    else if eqB x.t ⟨#[116, 97, 98, 108, 101]⟩ = true then tableF (ws.drop k) o else ⟨none, ws.drop k, o⟩ from by rw [← hR, ← TX.out]; rfl)
  rw [hR]
  have l1 : (k : Int) < (ws.length : Int) := by have := h.lt; omega
  have c0 := HP.out.c0
  have c1 := HP.out.c1
  have d1 := HP.out.w1 _ _ XA.out
  clear h hT hR cu
  obtain ⟨xk, xt, xn, xa⟩ := x
  simp only at RX XA d1 TX
  go_enter Tryz.func30, Tryz.ntmps30
  go_upto_region 1 with fail
  generalize World.alloc w _ = w1 at *
  go_quiet (fail)
  have BQ := hid (drewN_below w1 nq)
  replace HP := hid (HP.out.next BQ.out)
  replace HG := hid (HG.out.below BQ.out)
  replace HB := hid (HB.out.next BQ.out)
  replace WS := hid (Nat.lt_of_lt_of_le WS.out BQ.out.size)
  replace HT := hid (HT.out.next BQ.out)
  clear c0 c1 d1 BQ
  generalize w1.drewN nq = w2 at *
  cases einput : eqB xt ⟨#[105, 110, 112, 117, 116]⟩
  · cases erule : eqB xt ⟨#[114, 117, 108, 101]⟩
    · cases etable : eqB xt ⟨#[116, 97, 98, 108, 101]⟩
      · have uinput : (xt.toList == [105, 110, 112, 117, 116]) = false := (eqL xt [105, 110, 112, 117, 116]).trans einput
        have urule : (xt.toList == [114, 117, 108, 101]) = false := (eqL xt [114, 117, 108, 101]).trans erule
        have utable : (xt.toList == [116, 97, 98, 108, 101]) = false := (eqL xt [116, 97, 98, 108, 101]).trans etable
        have LR := hid (show R = ⟨none, ws.drop k, o⟩ from by rw [RX.out, if_neg (by rw [einput]; decide), if_neg (by rw [erule]; decide), if_neg (by rw [etable]; decide)])
        go_upto_region 8 with fail
        obtain ⟨r0, r1, r2, r3, r4, r5, rz⟩ := HB.out
        have BF := hid (B6.sets HB.out (.string ⟨#[]⟩) (.string ⟨#[]⟩) (.int .i64 0) (.int .i64 0) (.int .i64 0) (.slice none 0 0))
        have PF := hid (Ps.put6 HP.out (q := w.heap.size) (by omega) (by omega) (.string ⟨#[]⟩) (.string ⟨#[]⟩) (.int .i64 0) (.int .i64 0) (.int .i64 0) (.slice none 0 0))
        have GF := hid (Gr.put6 HG.out (q := w.heap.size) (by omega) (.string ⟨#[]⟩) (.string ⟨#[]⟩) (.int .i64 0) (.int .i64 0) (.int .i64 0) (.slice none 0 0))
        go_wp2_with fail
        generalize World.setCell _ ⟨w.heap.size, 5, none⟩ _ = w9 at *
        obtain ⟨f0, f1, f2, f3, f4, f5, _⟩ := BF.out
        exact bodyPost_ret (v := .tuple #[.agg #[.string ⟨#[]⟩, .string ⟨#[]⟩, .int .i64 0, .int .i64 0, .int .i64 0, .slice none 0 0], .bool false]) (by simp [results, Tryz.results30, go_sem, f0, f1, f2, f3, f4, f5]) rfl (Rp.no (Nat.le_refl k) LR.out GF.out PF.out (Nv.leaf ⟨#[]⟩ ⟨#[]⟩ 0 0 0))
      · have uinput : (xt.toList == [105, 110, 112, 117, 116]) = false := (eqL xt [105, 110, 112, 117, 116]).trans einput
        have urule : (xt.toList == [114, 117, 108, 101]) = false := (eqL xt [114, 117, 108, 101]).trans erule
        have utable : (xt.toList == [116, 97, 98, 108, 101]) = true := (eqL xt [116, 97, 98, 108, 101]).trans etable
        have RX' := hid (show R = tableF (ws.drop k) o from by rw [RX.out, if_neg (by rw [einput]; decide), if_neg (by rw [erule]; decide), if_pos etable])
        have RX'' := RX'.out
        subst RX''
        have HC := hid (CH.out _ _ _ _ _ _ (by rw [TX.out]; exact etable) hg HP.out HT.out)
        go_upto_region 7 with fail
        go_wp2_with (go_at_call 64; with_reducible refine Calls.mono (HC.out) ?_; rintro e w5 h5; obtain ⟨g5, k', t, sa, sm, sc, ok, hk, hk2, hl, p5, rfl, hok, nv, ht⟩ := h5.parts; have HK2 := hid hk2; clear hk2; have HR5 := hid (HB.out.gr g5 (by omega)); have HP5 := hid p5; have HG5 := hid (HG.out.trans g5); have HN5 := hid nv; have HT5 := hid ht; have HL5 := hid hl; have HO5 := hid hok; clear h5 g5 p5 nv ht hl hok; obtain ⟨r0, r1, r2, r3, r4, r5, rz⟩ := HR5.out; have BF := hid (HR5.out.sets (.string t.op) (.string t.name) (.int .i64 (t.kind : Nat)) (.int .i64 t.n) (.int .i64 (t.pl : Nat)) (.slice sa sm sc)); have PF := hid (HP5.out.put6 (q := w.heap.size) (by omega) (by omega) (.string t.op) (.string t.name) (.int .i64 (t.kind : Nat)) (.int .i64 t.n) (.int .i64 (t.pl : Nat)) (.slice sa sm sc)); have GF := hid (HG5.out.put6 (q := w.heap.size) (by omega) (.string t.op) (.string t.name) (.int .i64 (t.kind : Nat)) (.int .i64 t.n) (.int .i64 (t.pl : Nat)) (.slice sa sm sc)); have NF := hid (HN5.out.put6w (q := w.heap.size) (m := w.heap.size) (by have := WS.out; omega) (.string t.op) (.string t.name) (.int .i64 (t.kind : Nat)) (.int .i64 t.n) (.int .i64 (t.pl : Nat)) (.slice sa sm sc)))
        generalize World.setCell _ ⟨w.heap.size, 5, none⟩ _ = w6 at *
        obtain ⟨f0, f1, f2, f3, f4, f5, _⟩ := BF.out
        exact bodyPost_ret (v := .tuple #[.agg #[.string t.op, .string t.name, .int .i64 (t.kind : Nat), .int .i64 t.n, .int .i64 (t.pl : Nat), .slice sa sm sc], .bool ok]) (by simp [results, Tryz.results30, go_sem, f0, f1, f2, f3, f4, f5]) rfl (⟨GF.out, k', _, hk, fun e => HK2.out (by rw [← HO5.out]; exact e), HL5.out, PF.out, congrArg (fun x => Ending.returned (.tuple #[.agg #[.string t.op, .string t.name, .int .i64 (t.kind : Nat), .int .i64 t.n, .int .i64 (t.pl : Nat), .slice sa sm sc], .bool x])) HO5.out.symm, t, ⟨_, rfl, NF.out⟩, HT5.out⟩)
    · have uinput : (xt.toList == [105, 110, 112, 117, 116]) = false := (eqL xt [105, 110, 112, 117, 116]).trans einput
      have urule : (xt.toList == [114, 117, 108, 101]) = true := (eqL xt [114, 117, 108, 101]).trans erule
      have RX' := hid (show R = formF (recU (ws.drop k).length).2 0 [⟨#[114, 117, 108, 101]⟩, ⟨#[78, 65, 77, 69]⟩, ⟨#[75, 73, 78, 68]⟩, ⟨#[61]⟩, ⟨#[69, 88, 80, 82]⟩, ⟨#[59]⟩] (op0 ⟨#[114, 117, 108, 101]⟩ (aw (ws.drop k))) (ws.drop k) o from by rw [RX.out, if_neg (by rw [einput]; decide), if_pos erule])
      have RX'' := RX'.out
      subst RX''
      go_upto_region 5 with fail
      have HS2 := hid (show Below w2.heap.size w2 (w2.alloc (.cells #[.string ⟨#[114, 117, 108, 101]⟩, .string ⟨#[78, 65, 77, 69]⟩, .string ⟨#[75, 73, 78, 68]⟩, .string ⟨#[61]⟩, .string ⟨#[69, 88, 80, 82]⟩, .string ⟨#[59]⟩] 9)) from (Below.refl _ _).alloc (Nat.le_refl _) _)
      have HC := hid (show Calls Tryz.prog 63 #[.pointer (some ⟨p, 0, none⟩), .string ⟨#[114, 117, 108, 101]⟩, .int .i64 0, .slice (some ⟨w2.heap.size, 0, none⟩) 6 6] (w2.alloc (.cells #[.string ⟨#[114, 117, 108, 101]⟩, .string ⟨#[78, 65, 77, 69]⟩, .string ⟨#[75, 73, 78, 68]⟩, .string ⟨#[61]⟩, .string ⟨#[69, 88, 80, 82]⟩, .string ⟨#[59]⟩] 9)) (fun e w' => Rp (w2.alloc (.cells #[.string ⟨#[114, 117, 108, 101]⟩, .string ⟨#[78, 65, 77, 69]⟩, .string ⟨#[75, 73, 78, 68]⟩, .string ⟨#[61]⟩, .string ⟨#[69, 88, 80, 82]⟩, .string ⟨#[59]⟩] 9)) w' p b c ws k e (formF (recU (ws.drop k).length).2 0 [⟨#[114, 117, 108, 101]⟩, ⟨#[78, 65, 77, 69]⟩, ⟨#[75, 73, 78, 68]⟩, ⟨#[61]⟩, ⟨#[69, 88, 80, 82]⟩, ⟨#[59]⟩] (op0 ⟨#[114, 117, 108, 101]⟩ (aw (ws.drop k))) (ws.drop k) o)) from pform_any ⟨#[114, 117, 108, 101]⟩ 0 [⟨#[114, 117, 108, 101]⟩, ⟨#[78, 65, 77, 69]⟩, ⟨#[75, 73, 78, 68]⟩, ⟨#[61]⟩, ⟨#[69, 88, 80, 82]⟩, ⟨#[59]⟩] w2.heap.size (recs hg (ws.drop k).length).2 (HT.out.next HS2.out) (by rw [List.length_drop]; exact Nat.le_refl _) (by omega) (pa_new w2 [⟨#[114, 117, 108, 101]⟩, ⟨#[78, 65, 77, 69]⟩, ⟨#[75, 73, 78, 68]⟩, ⟨#[61]⟩, ⟨#[69, 88, 80, 82]⟩, ⟨#[59]⟩]) (by have := HP.out.pl; omega) (by decide) ⟨_, rfl, by decide⟩ hg (ne_all (by decide)) (HP.out.next HS2.out))
      have HB2 := hid (HB.out.next HS2.out)
      have HG2 := hid (HG.out.below HS2.out)
      have WS2 := hid (Nat.lt_of_lt_of_le WS.out HS2.out.size)
      go_wp2_with (go_at_call 63; with_reducible refine Calls.mono (HC.out) ?_; rintro e w5 h5; obtain ⟨g5, k', t, sa, sm, sc, ok, hk, hk2, hl, p5, rfl, hok, nv, ht⟩ := h5.parts; have HK2 := hid hk2; clear hk2; have HR5 := hid (HB2.out.gr g5 (by omega)); have HP5 := hid p5; have HG5 := hid (HG2.out.trans g5); have HN5 := hid nv; have HT5 := hid ht; have HL5 := hid hl; have HO5 := hid hok; clear h5 g5 p5 nv ht hl hok; obtain ⟨r0, r1, r2, r3, r4, r5, rz⟩ := HR5.out; have BF := hid (HR5.out.sets (.string t.op) (.string t.name) (.int .i64 (t.kind : Nat)) (.int .i64 t.n) (.int .i64 (t.pl : Nat)) (.slice sa sm sc)); have PF := hid (HP5.out.put6 (q := w.heap.size) (by omega) (by omega) (.string t.op) (.string t.name) (.int .i64 (t.kind : Nat)) (.int .i64 t.n) (.int .i64 (t.pl : Nat)) (.slice sa sm sc)); have GF := hid (HG5.out.put6 (q := w.heap.size) (by omega) (.string t.op) (.string t.name) (.int .i64 (t.kind : Nat)) (.int .i64 t.n) (.int .i64 (t.pl : Nat)) (.slice sa sm sc)); have NF := hid (HN5.out.put6w (q := w.heap.size) (m := w.heap.size) (by have := WS2.out; omega) (.string t.op) (.string t.name) (.int .i64 (t.kind : Nat)) (.int .i64 t.n) (.int .i64 (t.pl : Nat)) (.slice sa sm sc)))
      generalize World.setCell _ ⟨w.heap.size, 5, none⟩ _ = w6 at *
      obtain ⟨f0, f1, f2, f3, f4, f5, _⟩ := BF.out
      exact bodyPost_ret (v := .tuple #[.agg #[.string t.op, .string t.name, .int .i64 (t.kind : Nat), .int .i64 t.n, .int .i64 (t.pl : Nat), .slice sa sm sc], .bool ok]) (by simp [results, Tryz.results30, go_sem, f0, f1, f2, f3, f4, f5]) rfl (⟨GF.out, k', _, hk, fun e => HK2.out (by rw [← HO5.out]; exact e), HL5.out, PF.out, congrArg (fun x => Ending.returned (.tuple #[.agg #[.string t.op, .string t.name, .int .i64 (t.kind : Nat), .int .i64 t.n, .int .i64 (t.pl : Nat), .slice sa sm sc], .bool x])) HO5.out.symm, t, ⟨_, rfl, NF.out⟩, HT5.out⟩)
  · have uinput : (xt.toList == [105, 110, 112, 117, 116]) = true := (eqL xt [105, 110, 112, 117, 116]).trans einput
    have RX' := hid (show R = formF (recU (ws.drop k).length).2 0 [⟨#[105, 110, 112, 117, 116]⟩, ⟨#[78, 65, 77, 69]⟩, ⟨#[75, 73, 78, 68]⟩, ⟨#[59]⟩] (op0 ⟨#[105, 110, 112, 117, 116]⟩ (aw (ws.drop k))) (ws.drop k) o from by rw [RX.out, if_pos einput])
    have RX'' := RX'.out
    subst RX''
    go_upto_region 3 with fail
    have HS2 := hid (show Below w2.heap.size w2 (w2.alloc (.cells #[.string ⟨#[105, 110, 112, 117, 116]⟩, .string ⟨#[78, 65, 77, 69]⟩, .string ⟨#[75, 73, 78, 68]⟩, .string ⟨#[59]⟩] 9)) from (Below.refl _ _).alloc (Nat.le_refl _) _)
    have HC := hid (show Calls Tryz.prog 63 #[.pointer (some ⟨p, 0, none⟩), .string ⟨#[105, 110, 112, 117, 116]⟩, .int .i64 0, .slice (some ⟨w2.heap.size, 0, none⟩) 4 4] (w2.alloc (.cells #[.string ⟨#[105, 110, 112, 117, 116]⟩, .string ⟨#[78, 65, 77, 69]⟩, .string ⟨#[75, 73, 78, 68]⟩, .string ⟨#[59]⟩] 9)) (fun e w' => Rp (w2.alloc (.cells #[.string ⟨#[105, 110, 112, 117, 116]⟩, .string ⟨#[78, 65, 77, 69]⟩, .string ⟨#[75, 73, 78, 68]⟩, .string ⟨#[59]⟩] 9)) w' p b c ws k e (formF (recU (ws.drop k).length).2 0 [⟨#[105, 110, 112, 117, 116]⟩, ⟨#[78, 65, 77, 69]⟩, ⟨#[75, 73, 78, 68]⟩, ⟨#[59]⟩] (op0 ⟨#[105, 110, 112, 117, 116]⟩ (aw (ws.drop k))) (ws.drop k) o)) from pform_any ⟨#[105, 110, 112, 117, 116]⟩ 0 [⟨#[105, 110, 112, 117, 116]⟩, ⟨#[78, 65, 77, 69]⟩, ⟨#[75, 73, 78, 68]⟩, ⟨#[59]⟩] w2.heap.size (recs hg (ws.drop k).length).2 (HT.out.next HS2.out) (by rw [List.length_drop]; exact Nat.le_refl _) (by omega) (pa_new w2 [⟨#[105, 110, 112, 117, 116]⟩, ⟨#[78, 65, 77, 69]⟩, ⟨#[75, 73, 78, 68]⟩, ⟨#[59]⟩]) (by have := HP.out.pl; omega) (by decide) ⟨_, rfl, by decide⟩ hg (ne_all (by decide)) (HP.out.next HS2.out))
    have HB2 := hid (HB.out.next HS2.out)
    have HG2 := hid (HG.out.below HS2.out)
    have WS2 := hid (Nat.lt_of_lt_of_le WS.out HS2.out.size)
    go_wp2_with (go_at_call 63; with_reducible refine Calls.mono (HC.out) ?_; rintro e w5 h5; obtain ⟨g5, k', t, sa, sm, sc, ok, hk, hk2, hl, p5, rfl, hok, nv, ht⟩ := h5.parts; have HK2 := hid hk2; clear hk2; have HR5 := hid (HB2.out.gr g5 (by omega)); have HP5 := hid p5; have HG5 := hid (HG2.out.trans g5); have HN5 := hid nv; have HT5 := hid ht; have HL5 := hid hl; have HO5 := hid hok; clear h5 g5 p5 nv ht hl hok; obtain ⟨r0, r1, r2, r3, r4, r5, rz⟩ := HR5.out; have BF := hid (HR5.out.sets (.string t.op) (.string t.name) (.int .i64 (t.kind : Nat)) (.int .i64 t.n) (.int .i64 (t.pl : Nat)) (.slice sa sm sc)); have PF := hid (HP5.out.put6 (q := w.heap.size) (by omega) (by omega) (.string t.op) (.string t.name) (.int .i64 (t.kind : Nat)) (.int .i64 t.n) (.int .i64 (t.pl : Nat)) (.slice sa sm sc)); have GF := hid (HG5.out.put6 (q := w.heap.size) (by omega) (.string t.op) (.string t.name) (.int .i64 (t.kind : Nat)) (.int .i64 t.n) (.int .i64 (t.pl : Nat)) (.slice sa sm sc)); have NF := hid (HN5.out.put6w (q := w.heap.size) (m := w.heap.size) (by have := WS2.out; omega) (.string t.op) (.string t.name) (.int .i64 (t.kind : Nat)) (.int .i64 t.n) (.int .i64 (t.pl : Nat)) (.slice sa sm sc)))
    generalize World.setCell _ ⟨w.heap.size, 5, none⟩ _ = w6 at *
    obtain ⟨f0, f1, f2, f3, f4, f5, _⟩ := BF.out
    exact bodyPost_ret (v := .tuple #[.agg #[.string t.op, .string t.name, .int .i64 (t.kind : Nat), .int .i64 t.n, .int .i64 (t.pl : Nat), .slice sa sm sc], .bool ok]) (by simp [results, Tryz.results30, go_sem, f0, f1, f2, f3, f4, f5]) rfl (⟨GF.out, k', _, hk, fun e => HK2.out (by rw [← HO5.out]; exact e), HL5.out, PF.out, congrArg (fun x => Ending.returned (.tuple #[.agg #[.string t.op, .string t.name, .int .i64 (t.kind : Nat), .int .i64 t.n, .int .i64 (t.pl : Nat), .slice sa sm sc], .bool x])) HO5.out.symm, t, ⟨_, rfl, NF.out⟩, HT5.out⟩)

end Go.Proofs.YtiikdmnmfmfpdaaGreatDoor

namespace Go.Proofs.YtiikdmnmfmfpdaaGreatDoor
open Go.RowKit
set_option linter.unusedVariables false
set_option linter.unusedSimpArgs false

/-- What statute answers, in memory. -/
def Rq (w w' : World) (p b c : Nat) (ws : List Wo) (e : Ending) (r : Rs) : Prop := Gr w w' p ∧ ∃ k' v, r.l = ws.drop k' ∧ Ps w' p b c ws k' r.o ∧ e = .returned (.tuple #[v, .bool r.t.isSome]) ∧ ∃ t, Nv w' (fun g => w.heap.size ≤ g) v t ∧ ∀ t', r.t = some t' → t = t'
def declR (f : Nat) (n : Tr) (r : Rs) : Rs := match r with | ⟨none, l', o'⟩ => ⟨none, l', o'⟩ | ⟨some u, l', o'⟩ => declsF f (n.add u) l' o'
theorem decls_is {f : Nat} {n : Tr} {l : List Wo} {o : Option Nat} (h : ¬ l.length ≤ 1) : declsF (f + 1) n l o = declR f n (declF l o) := by
  unfold declR
  simp only [declsF]
  rw [if_neg h]
  generalize declF l o = r
  obtain ⟨t, l', o'⟩ := r
  cases t <;> rfl
theorem decls_end {f : Nat} {n : Tr} {l : List Wo} {o : Option Nat} (h : l.length ≤ 1) : declsF f n l o = ⟨some n, l, o⟩ := by
  cases f with
  | zero => rfl
  | succ f => simp only [declsF]; rw [if_pos h]
set_option maxRecDepth 100000 in
set_option maxHeartbeats 4000000 in
theorem pstat_any {w : World} {p b c : Nat} {ws : List Wo} (hT : KT w) (hg : 1 ≠ p) (hC : TC ws) (h : Ps w p b c ws 0 none) :
    Calls Tryz.prog 17 #[.pointer (some ⟨p, 0, none⟩)] w fun e w' => Rq w w' p b c ws e (statF ws) := by
  have rp := h.pl
  have rb := h.bl
  have HB := hid (B6.new w 26 (.string ⟨#[]⟩) (.string ⟨#[]⟩) (.int .i64 0) (.int .i64 0) (.int .i64 0) (.slice none 0 0))
  have HS0 : Hid (Below w.heap.size w (w.alloc (.cells #[.string ⟨#[]⟩, .string ⟨#[]⟩, .int .i64 0, .int .i64 0, .int .i64 0, .slice none 0 0] 26))) := (Below.refl _ _).alloc (Nat.le_refl _) _
  have HP := hid (h.next HS0.out)
  have HG := hid ((Gr.refl w p).below HS0.out)
  have WS := hid (show w.heap.size < (w.alloc (.cells #[.string ⟨#[]⟩, .string ⟨#[]⟩, .int .i64 0, .int .i64 0, .int .i64 0, .slice none 0 0] 26)).heap.size from by simp)
  have HT := hid (hT.next HS0.out)
  have l2 := h.len
  have l3 := h.lt
  have l2' : (ws.length : Int) ≤ 9000 := by omega
  have l3' : (0 : Int) < (ws.length : Int) := by omega
  have CH := hid hC
  have TH := hid hT
  obtain ⟨x, cu⟩ := h.cur
  have XA := hid cu.at_
  obtain ⟨R, hR⟩ : ∃ R, statF ws = R := ⟨_, rfl⟩
  have RX := hid (show declsF ws.length (op0 ⟨#[115, 116, 97, 116, 117, 116, 101]⟩ x.a) (ws.drop 0) none = R from by rw [← hR, List.drop_zero]; unfold statF; rw [show aw ws = x.a from by rw [show ws = ws.drop 0 from rfl, cu.dr]; rfl]; rfl)
  rw [hR]
  have c0 := HP.out.c0
  have d3 := HP.out.w3 _ _ XA.out
  clear h hT hR cu hC
  obtain ⟨xk, xt, xn, xa⟩ := x
  simp only at RX XA d3
  simp only [Nat.zero_mul, Nat.zero_add] at d3
  go_enter Tryz.func17, Tryz.ntmps17
  go_upto_region 1 with fail
  generalize World.alloc w _ = w1 at *
  have HS1 := hid (show Below w1.heap.size w1 (w1.alloc (.cells #[.string ⟨#[115, 116, 97, 116, 117, 116, 101]⟩, .string ⟨#[]⟩, .int .i64 0, .int .i64 0, .int .i64 (xa : Nat), .slice none 0 0] 26)) from (Below.refl _ _).alloc (Nat.le_refl _) _)
  have SB := hid (show (w1.alloc (.cells #[.string ⟨#[115, 116, 97, 116, 117, 116, 101]⟩, .string ⟨#[]⟩, .int .i64 0, .int .i64 0, .int .i64 (xa : Nat), .slice none 0 0] 26)).heap.size = w1.heap.size + 1 from by simp)
  have F0 := hid (show Fm w (w1.alloc (.cells #[.string ⟨#[115, 116, 97, 116, 117, 116, 101]⟩, .string ⟨#[]⟩, .int .i64 0, .int .i64 0, .int .i64 (xa : Nat), .slice none 0 0] 26)) p b c ws w1.heap.size (w1.heap.size + 1) 0 none (op0 ⟨#[115, 116, 97, 116, 117, 116, 101]⟩ xa) (.slice none 0 0) from
    ⟨HP.out.next HS1.out, HG.out.below HS1.out, B6.new w1 26 (.string ⟨#[115, 116, 97, 116, 117, 116, 101]⟩) (.string ⟨#[]⟩) (.int .i64 0) (.int .i64 0) (.int .i64 (xa : Nat)) (.slice none 0 0), HB.out.next HS1.out, Kr.nil _ _, Nat.zero_le _, by rw [SB.out]; exact Nat.le_refl _, rp, rb, WS.out, Nat.lt_succ_self _⟩)
  go_upto_region 2 with fail
  clear HS1 SB HP HG HB WS c0 d3 HS0
  generalize World.alloc w1 _ = w2 at *
  generalize w1.heap.size = q at *
  go_loopg [6] (ws.length + 1) (fun g ov wr => ∃ (f k' : Nat) (o' : Option Nat) (n : Tr) (sa : Option Addr) (sm sc : Nat), k' < ws.length ∧ g = ws.length + 1 - k' ∧ n.kids.length ≤ k' ∧ Hid (Fm w wr p b c ws q (q + 1) k' o' n (.slice sa sm sc)) ∧ Hid (declsF f n (ws.drop k') o' = R ∧ ws.length - k' ≤ f))
  case atStart => exact ⟨ws.length, 0, none, op0 ⟨#[115, 116, 97, 116, 117, 116, 101]⟩ xa, none, 0, 0, l3, rfl, Nat.zero_le _, F0, RX.out, Nat.le_refl _⟩
  case round =>
    clear F0 RX
    obtain ⟨f, k', o', n, sa, sm, sc, hk, rfl, hkl, FH, RH⟩ := hrel
    have wq := FH.out.wq
    have hkl2 : n.kids.length < 20000 := by omega
    have c0 := FH.out.ps.c0
    have c1 := FH.out.ps.c1
    by_cases y : k' + 1 < ws.length
    · have y' : (k' : Int) < (ws.length : Int) - 1 := by omega
      go_upto_region 2 with fail
      go_quiet (fail)
      replace FH := hid (FH.out.next (drewN_below wr nq))
      clear c0 c1
      generalize wr.drewN nq = w3 at *
      obtain ⟨f, rfl⟩ : ∃ f', f = f' + 1 := ⟨f - 1, by have := RH.out.2; omega⟩
      obtain ⟨RK, hRK⟩ : ∃ RK, declF (ws.drop k') o' = RK := ⟨_, rfl⟩
      have LR0 := hid (show R = declR f n RK from by rw [← RH.out.1, decls_is (by rw [List.length_drop]; omega), hRK])
      have FU := RH.out.2
      have HC := hid (show Calls _ _ _ _ (fun e w' => Rp _ w' p b c ws k' e RK) from by have := pdecl_any (TH.out.gr FH.out.gr hg) hg CH.out FH.out.ps; rw [hRK] at this; exact this)
      clear hRK RH
      obtain ⟨rt, rl, ro⟩ := RK
      have LT := hid FH.out.kr.lt
      have eb : q + 1 ≤ w3.heap.size := FH.out.ba
      go_upto_region 4 with (go_at_call 30; with_reducible refine Calls.mono (HC.out) ?_; rintro e w5 h5; obtain ⟨g5, k5, t5, sa5, sm5, sc5, ok5, hk5, hk6, hl5, p5, rfl, hok, nv5, ht5⟩ := h5.parts; have F5 := hid (FH.out.call g5 p5); have NV5 := hid nv5; have HL9 := hid hl5; have HO9 := hid hok; have HT9 := hid ht5; have HK6 := hid hk6; have GS5 := hid g5.size; clear g5 p5 nv5 hl5 hok ht5 h5 hk6)
      have HL9 := HL9.out
      have HL9 : rl = ws.drop k5 := HL9
      subst HL9
      have HS6 := hid (show Below w5.heap.size w5 (w5.alloc (.cells #[.string t5.op, .string t5.name, .int .i64 (t5.kind : Nat), .int .i64 t5.n, .int .i64 (t5.pl : Nat), .slice sa5 sm5 sc5] 26)) from (Below.refl _ _).alloc (Nat.le_refl _) _)
      have F7 := hid (F5.out.next HS6.out)
      have B7 := hid (B6.new w5 26 (.string t5.op) (.string t5.name) (.int .i64 (t5.kind : Nat)) (.int .i64 t5.n) (.int .i64 (t5.pl : Nat)) (.slice sa5 sm5 sc5))
      have N7 := hid (NV5.out.next HS6.out)
      clear F5 NV5 HS6 HC
      generalize World.alloc w5 _ = w7 at *
      generalize w5.heap.size = eg at *
      cases rt with
      | none =>
        have ok0 : ok5 = false := HO9.out.symm
        subst ok0
        have LR := hid (show R = ⟨none, ws.drop k5, ro⟩ from LR0.out)
        clear HL9
        go_upto_region 5 with fail
        obtain ⟨r0, r1, r2, r3, r4, r5, rz⟩ := F7.out.br
        have BF := hid (F7.out.br.sets (.string ⟨#[]⟩) (.string ⟨#[]⟩) (.int .i64 0) (.int .i64 0) (.int .i64 0) (.slice none 0 0))
        have PF := hid (F7.out.ps.put6 (q := w.heap.size) (by omega) (by omega) (.string ⟨#[]⟩) (.string ⟨#[]⟩) (.int .i64 0) (.int .i64 0) (.int .i64 0) (.slice none 0 0))
        have GF := hid (F7.out.gr.put6 (q := w.heap.size) (by omega) (.string ⟨#[]⟩) (.string ⟨#[]⟩) (.int .i64 0) (.int .i64 0) (.int .i64 0) (.slice none 0 0))
        go_wp2_with fail
        generalize World.setCell _ ⟨w.heap.size, 5, none⟩ _ = w9 at *
        obtain ⟨f0, f1, f2, f3, f4, f5, _⟩ := BF.out
        exact bodyPost_ret (v := .tuple #[.agg #[.string ⟨#[]⟩, .string ⟨#[]⟩, .int .i64 0, .int .i64 0, .int .i64 0, .slice none 0 0], .bool false]) (by simp [results, Tryz.results17, go_sem, f0, f1, f2, f3, f4, f5]) rfl (by rw [LR.out]; exact ⟨GF.out, k5, _, rfl, PF.out, rfl, _, Nv.leaf ⟨#[]⟩ ⟨#[]⟩ 0 0 0, fun t' e => by cases e⟩)
      | some t0 =>
        have ok1 : ok5 = true := HO9.out.symm
        subst ok1
        obtain rfl : t5 = t0 := HT9.out t0 rfl
        have hk7 : k' < k5 := HK6.out rfl
        have HRn := hid (show declsF f (n.add t5) (ws.drop k5) ro = R from LR0.out.symm)
        have HS8 := hid (show Below w7.heap.size w7 (w7.alloc (.cells #[.string t5.op, .string t5.name, .int .i64 (t5.kind : Nat), .int .i64 t5.n, .int .i64 (t5.pl : Nat), .slice sa5 sm5 sc5] 26)) from (Below.refl _ _).alloc (Nat.le_refl _) _)
        have F8 := hid (F7.out.next HS8.out)
        have C8 := hid (B6.new w7 26 (.string t5.op) (.string t5.name) (.int .i64 (t5.kind : Nat)) (.int .i64 t5.n) (.int .i64 (t5.pl : Nat)) (.slice sa5 sm5 sc5)).nc
        have N8 := hid (show Nd (w7.alloc (.cells #[.string t5.op, .string t5.name, .int .i64 (t5.kind : Nat), .int .i64 t5.n, .int .i64 (t5.pl : Nat), .slice sa5 sm5 sc5] 26)) (fun g => q + 1 ≤ g ∧ some g ≠ (Value.slice sa sm sc).ownBlock) (.slice sa5 sm5 sc5) t5.kids from N7.out.keep fun g s l => ⟨⟨by omega, fun e => by have := (LT.out g e.symm).2; omega⟩, HS8.out.block g l⟩)
        obtain ⟨b0, b1, b2, b3, b4, b5, _⟩ := B7.out
        obtain ⟨n0, n1, n2, n3, n4, n5, nz⟩ := F7.out.bq
        have ba8 := F8.out.ba
        have kl5 := F7.out.ps.lt
        clear F7 B7 N7 HL9
        have yk : (n.add t5).kids.length ≤ k5 := by cases n; simp [Tr.add, Tr.kids] at hkl ⊢; omega
        go_wp2_with (at_builtin; refine wpList_addN rfl (.tmp 35) (.tmp 37) rfl (q + 1) (.slice sa sm sc) n.kids t5 (.slice sa5 sm5 sc5) rfl F8.out.kr w7.heap.size rfl C8.out N8.out (by omega) (by first | exact ba8 | (simp; omega)) ?_; intro v2 w9 o2 g2; obtain ⟨va, vm, vc, rfl⟩ := o2.nd.sl; have F9 := hid (F8.out.kid g2 o2 hkl2); have m5 := (F8.out.bq.grown g2 (F8.out.off (by omega))).c5; have mz := (F8.out.bq.grown g2 (F8.out.off (by omega))).fz 5; clear o2 g2 n0 n1 n2 n3 n4 n5 nz b0 b1 b2 b3 b4 b5)
        go_roundg (ws.length + 1 - k5)
        case measure => omega
        case rel => exact ⟨f, k5, ro, n.add t5, _, _, _, kl5, rfl, yk, F9, HRn.out, by omega⟩
    · have y' : ¬ (k' : Int) < (ws.length : Int) - 1 := by omega
      have LR := hid (show R = ⟨some n, ws.drop k', o'⟩ from by rw [← RH.out.1]; exact decls_end (by rw [List.length_drop]; omega))
      go_upto_region 2 with fail
      go_quiet (fail)
      replace FH := hid (FH.out.next (drewN_below wr nq))
      clear c0 c1
      generalize wr.drewN nq = w3 at *
      go_upto_region 7 with fail
      obtain ⟨n0, n1, n2, n3, n4, n5, _⟩ := FH.out.bq
      obtain ⟨r0, r1, r2, r3, r4, r5, rz⟩ := FH.out.br
      have BF := hid (FH.out.br.sets (.string n.op) (.string n.name) (.int .i64 (n.kind : Nat)) (.int .i64 n.n) (.int .i64 (n.pl : Nat)) (.slice sa sm sc))
      have PF := hid (FH.out.ps.put6 (q := w.heap.size) (by omega) (by omega) (.string n.op) (.string n.name) (.int .i64 (n.kind : Nat)) (.int .i64 n.n) (.int .i64 (n.pl : Nat)) (.slice sa sm sc))
      have GF := hid (FH.out.gr.put6 (q := w.heap.size) (by omega) (.string n.op) (.string n.name) (.int .i64 (n.kind : Nat)) (.int .i64 n.n) (.int .i64 (n.pl : Nat)) (.slice sa sm sc))
      have NF := hid (FH.out.yes.put6 (q := w.heap.size) (by omega) (.string n.op) (.string n.name) (.int .i64 (n.kind : Nat)) (.int .i64 n.n) (.int .i64 (n.pl : Nat)) (.slice sa sm sc))
      go_wp2_with fail
      generalize World.setCell _ ⟨w.heap.size, 5, none⟩ _ = w9 at *
      obtain ⟨f0, f1, f2, f3, f4, f5, _⟩ := BF.out
      exact bodyPost_ret (v := .tuple #[.agg #[.string n.op, .string n.name, .int .i64 (n.kind : Nat), .int .i64 n.n, .int .i64 (n.pl : Nat), .slice sa sm sc], .bool true]) (by simp [results, Tryz.results17, go_sem, f0, f1, f2, f3, f4, f5]) rfl (by rw [LR.out]; exact ⟨GF.out, k', _, rfl, PF.out, rfl, n, ⟨_, rfl, NF.out.keep fun g s l => ⟨by omega, rfl⟩⟩, fun t' e => by injection e⟩)
end Go.Proofs.YtiikdmnmfmfpdaaGreatDoor

namespace Go.Proofs.YtiikdmnmfmfpdaaGreatDoor
open Go.RowKit
set_option linter.unusedVariables false
set_option linter.unusedSimpArgs false

theorem cut_fin (s : ByteArray) : ∀ (m a : Nat) (R : List Wd), s.size - a ≤ m → a ≤ s.size → cutF s a = (R, none) → R.length ≤ s.size - a + 1 ∧ ∃ (Q : List Wd) (b : Nat), R = Q ++ [(0, 0, 0, b)] := by
  intro m
  induction m with
  | zero =>
    intro a R hm hle hc
    rw [cutF_end (by omega)] at hc
    injection hc with hc _
    subst hc
    exact ⟨by simp, [], a, rfl⟩
  | succ m ih =>
    intro a R hm hle hc
    rcases Nat.lt_or_ge a s.size with ha | ha
    · rw [cutF_cons ha] at hc
      by_cases b : isBl (bt s a) = true
      · rw [if_pos b] at hc
        obtain ⟨i1, i2⟩ := ih (a + 1) R (by omega) (by omega) hc
        exact ⟨by omega, i2⟩
      · rw [if_neg b] at hc
        by_cases d : (bt s a).toNat = 35
        · rw [if_pos d] at hc
          have c1 : 1 ≤ runC (tl s a) := by rw [tl_cons ha]; unfold runC; rw [if_neg (by omega)]; omega
          have c2 := runC_le (tl s a)
          rw [tl_len] at c2
          obtain ⟨i1, i2⟩ := ih _ R (by omega) (by omega) hc
          exact ⟨by omega, i2⟩
        · rw [if_neg d] at hc
          cases hw : wd (tl s a) with
          | none => rw [hw] at hc; cases hc
          | some y =>
            obtain ⟨k, n, v⟩ := y
            rw [hw] at hc
            dsimp only at hc
            obtain ⟨n1, n2⟩ := wd_len hw
            rw [tl_len] at n2
            cases hr : cutF s (a + n) with
            | mk r e =>
              rw [hr] at hc
              cases e with
              | some b => cases hc
              | none =>
                injection hc with hc _
                subst hc
                obtain ⟨i1, Q, b, i2⟩ := ih _ r (by omega) (by omega) hr
                exact ⟨by simp; omega, (k, n, v, a) :: Q, b, by rw [i2]; rfl⟩
    · rw [cutF_end ha] at hc
      injection hc with hc _
      subst hc
      exact ⟨by simp, [], a, rfl⟩
theorem Below.put6 {a b : World} {q : Nat} {B : Nat} (h : Below B a b) (hq : B ≤ q) (v0 v1 v2 v3 v4 v5 : Value) : Below B a ((((((b.setCell ⟨q, 0, none⟩ v0).setCell ⟨q, 1, none⟩ v1).setCell ⟨q, 2, none⟩ v2).setCell ⟨q, 3, none⟩ v3).setCell ⟨q, 4, none⟩ v4).setCell ⟨q, 5, none⟩ v5) :=
  (((((h.setCell (p := ⟨q, 0, none⟩) hq v0).setCell (p := ⟨q, 1, none⟩) hq v1).setCell (p := ⟨q, 2, none⟩) hq v2).setCell (p := ⟨q, 3, none⟩) hq v3).setCell (p := ⟨q, 4, none⟩) hq v4).setCell (p := ⟨q, 5, none⟩) hq v5
/-- The parser's own block, and what lies in it at first. -/
theorem Ps.new {w : World} {s : ByteArray} {v : Value} {R : List Wd} {a : Option Addr} {c b : Nat} (h : Rd4 w v s R a c b) (hb : b < w.heap.size) (hl : R.length ≤ 9000) (hf : ∃ (Q : List Wd) (x : Nat), R = Q ++ [(0, 0, 0, x)]) (t : TypeId) :
    Ps (w.alloc (.cells #[.slice (some ⟨b, 0, none⟩) (R.map (wo s)).length c, .int .i64 0, .bool false, .int .i64 0] t)) w.heap.size b c (R.map (wo s)) 0 none := by
  have st : Below w.heap.size w (w.alloc (.cells #[.slice (some ⟨b, 0, none⟩) (R.map (wo s)).length c, .int .i64 0, .bool false, .int .i64 0] t)) := (Below.refl _ _).alloc (Nat.le_refl _) _
  have at_ : ∀ i x, (R.map (wo s))[i]? = some x → ∃ y, R[i]? = some y ∧ wo s y = x := fun i x e => by
    rw [List.getElem?_map] at e
    exact Option.map_eq_some_iff.1 e
  obtain ⟨Q, z, e⟩ := hf
  refine ⟨by simp, by simp, by simp, by simp, fun i => by simp, ?_, ?_, ?_, ?_, by omega, by rw [e]; simp, by simpa using hl, ?_⟩
  · intro i x q; obtain ⟨y, q1, q2⟩ := at_ i x q; rw [st.cell (p := ⟨b, _, none⟩) hb, h.c0 i y q1, ← q2]; rfl
  · intro i x q; obtain ⟨y, q1, q2⟩ := at_ i x q; rw [st.cell (p := ⟨b, _, none⟩) hb, h.c1 i y q1, ← q2]; rfl
  · intro i x q; obtain ⟨y, q1, q2⟩ := at_ i x q; rw [st.cell (p := ⟨b, _, none⟩) hb, h.c2 i y q1, ← q2]; rfl
  · intro i x q; obtain ⟨y, q1, q2⟩ := at_ i x q; rw [st.cell (p := ⟨b, _, none⟩) hb, h.c3 i y q1, ← q2]; rfl
  · intro x q
    obtain ⟨y, q1, q2⟩ := at_ _ x q
    rw [e] at q1
    simp at q1
    subst q1
    rw [← q2]
    refine ⟨rfl, ?_⟩
    exact ext_nil s z
theorem cutL (s : ByteArray) (w : World) (hs : 8192 < s.size) (hs' : s.size < 9000000000000000000) : Calls Tryz.prog 16 #[.string s] w fun e w' => e = .returned (.tuple #[.slice none 0 0, .int .i64 0, .int .i64 2]) ∧ Below w.heap.size w w' :=
  (cut_long s w hs hs').mono fun e w' ⟨h1, h2⟩ => ⟨h1, by subst h2; exact Below.refl _ _⟩
theorem cutN (s : ByteArray) (R : List Wd) (b : Nat) (w : World) (hs : s.size ≤ 8192) (hT : Tab w) (h : cutF s 0 = (R, some b)) : Calls Tryz.prog 16 #[.string s] w fun e w' => e = .returned (.tuple #[.slice none 0 0, .int .i64 (b : Nat), .int .i64 7]) ∧ Below w.heap.size w w' :=
  (Cut_any s w hs hT).mono fun e w' ⟨hb, hm⟩ => by
    rw [h] at hm
    exact ⟨hm, hb⟩
theorem cutY (s : ByteArray) (R : List Wd) (w : World) (hs : s.size ≤ 8192) (hT : Tab w) (h : cutF s 0 = (R, none)) : Calls Tryz.prog 16 #[.string s] w fun e w' => ∃ v, e = .returned (.tuple #[v, .int .i64 0, .int .i64 0]) ∧ Rw w' w.heap.size 52 s v R ∧ Below w.heap.size w w' :=
  (Cut_any s w hs hT).mono fun e w' ⟨hb, hm⟩ => by
    rw [h] at hm
    obtain ⟨v, h1, h2⟩ := hm
    exact ⟨v, h1, h2, hb⟩
def parR (r : Rs) : Tr ⊕ (Nat × Nat) := match r with | ⟨none, l', _⟩ => .inr (aw l', 7) | ⟨some t, _, some a⟩ => .inr (a, 2) | ⟨some t, _, none⟩ => .inl t
theorem parF_is (l : List Wo) : parF l = parR (statF l) := by
  unfold parF parR
  rfl
/-- What Parse answers. -/
def PrP (r : Tr ⊕ (Nat × Nat)) (w : World) (e : Ending) (w' : World) : Prop := Below w.heap.size w w' ∧
  match r with
  | .inl t => ∃ v, e = .returned (.tuple #[v, .int .i64 0, .int .i64 0]) ∧ Nv w' (fun g => w.heap.size ≤ g) v t
  | .inr (a, n) => e = .returned (.tuple #[.agg #[.string ⟨#[]⟩, .string ⟨#[]⟩, .int .i64 0, .int .i64 0, .int .i64 0, .slice none 0 0], .int .i64 (a : Nat), .int .i64 (n : Nat)])
set_option maxRecDepth 100000 in
set_option maxHeartbeats 4000000 in
theorem parse_long (s : ByteArray) (w : World) (hs : 8192 < s.size) (hs2 : s.size < 9000000000000000000) (hT : KT w) (hS : Tab w) :
    Calls Tryz.prog 7 #[.string s] w fun e w' => PrP (parse s) w e w' := by
  have HB := hid (B6.new w 26 (.string ⟨#[]⟩) (.string ⟨#[]⟩) (.int .i64 0) (.int .i64 0) (.int .i64 0) (.slice none 0 0))
  have HS0 : Hid (Below w.heap.size w (w.alloc (.cells #[.string ⟨#[]⟩, .string ⟨#[]⟩, .int .i64 0, .int .i64 0, .int .i64 0, .slice none 0 0] 26))) := (Below.refl _ _).alloc (Nat.le_refl _) _
  have WS := hid (show w.heap.size < (w.alloc (.cells #[.string ⟨#[]⟩, .string ⟨#[]⟩, .int .i64 0, .int .i64 0, .int .i64 0, .slice none 0 0] 26)).heap.size from by simp)
  have KG := hT.1
  have KH := hid (hT.next HS0.out)
  have TH := hid (hS.next HS0.out)
  have HC := hid (cutL s (w.alloc (.cells #[.string ⟨#[]⟩, .string ⟨#[]⟩, .int .i64 0, .int .i64 0, .int .i64 0, .slice none 0 0] 26)) hs hs2)
  have PE := hid (show parse s = .inr (0, 2) from by unfold parse; rw [if_pos hs])
  obtain ⟨R, hR⟩ : ∃ R, parse s = R := ⟨_, rfl⟩
  rw [hR] at PE ⊢
  clear hR hT hS
  go_enter Tryz.func7, Tryz.ntmps7
  go_upto_region 1 with fail
  generalize World.alloc w _ = w1 at *
  go_upto_region 3 with (go_at_call 16; with_reducible refine Calls.mono HC.out ?_; rintro e w2 ⟨rfl, b2⟩; replace HB := hid (HB.out.next b2); replace HS0 := hid (nextB HS0.out b2); clear b2)
  obtain ⟨r0, r1, r2, r3, r4, r5, rz⟩ := HB.out
  have BF := hid (HB.out.sets (.string ⟨#[]⟩) (.string ⟨#[]⟩) (.int .i64 0) (.int .i64 0) (.int .i64 0) (.slice none 0 0))
  have GF := hid (Below.put6 HS0.out (q := w.heap.size) (Nat.le_refl _) (.string ⟨#[]⟩) (.string ⟨#[]⟩) (.int .i64 0) (.int .i64 0) (.int .i64 0) (.slice none 0 0))
  go_wp2_with fail
  generalize World.setCell _ ⟨w.heap.size, 5, none⟩ _ = w9 at *
  obtain ⟨f0, f1, f2, f3, f4, f5, _⟩ := BF.out
  exact bodyPost_ret (v := .tuple #[.agg #[.string ⟨#[]⟩, .string ⟨#[]⟩, .int .i64 0, .int .i64 0, .int .i64 0, .slice none 0 0], .int .i64 0, .int .i64 2]) (by simp [results, Tryz.results7, go_sem, f0, f1, f2, f3, f4, f5]) rfl (by rw [PE.out]; exact ⟨GF.out, rfl⟩)
set_option maxRecDepth 100000 in
set_option maxHeartbeats 4000000 in
theorem parse_bad (s : ByteArray) (w : World) (bx : Nat) (Rx : List Wd) (hs : s.size ≤ 8192) (hx : cutF s 0 = (Rx, some bx)) (hT : KT w) (hS : Tab w) :
    Calls Tryz.prog 7 #[.string s] w fun e w' => PrP (parse s) w e w' := by
  have HB := hid (B6.new w 26 (.string ⟨#[]⟩) (.string ⟨#[]⟩) (.int .i64 0) (.int .i64 0) (.int .i64 0) (.slice none 0 0))
  have HS0 : Hid (Below w.heap.size w (w.alloc (.cells #[.string ⟨#[]⟩, .string ⟨#[]⟩, .int .i64 0, .int .i64 0, .int .i64 0, .slice none 0 0] 26))) := (Below.refl _ _).alloc (Nat.le_refl _) _
  have WS := hid (show w.heap.size < (w.alloc (.cells #[.string ⟨#[]⟩, .string ⟨#[]⟩, .int .i64 0, .int .i64 0, .int .i64 0, .slice none 0 0] 26)).heap.size from by simp)
  have KG := hT.1
  have KH := hid (hT.next HS0.out)
  have TH := hid (hS.next HS0.out)
  have HC := hid (cutN s Rx bx _ hs TH.out hx)
  have PE := hid (show parse s = .inr (bx, 7) from by unfold parse; rw [if_neg (by omega), hx])
  obtain ⟨R, hR⟩ : ∃ R, parse s = R := ⟨_, rfl⟩
  rw [hR] at PE ⊢
  clear hR hT hS
  go_enter Tryz.func7, Tryz.ntmps7
  go_upto_region 1 with fail
  generalize World.alloc w _ = w1 at *
  go_upto_region 3 with (go_at_call 16; with_reducible refine Calls.mono HC.out ?_; rintro e w2 ⟨rfl, b2⟩; replace HB := hid (HB.out.next b2); replace HS0 := hid (nextB HS0.out b2); clear b2)
  obtain ⟨r0, r1, r2, r3, r4, r5, rz⟩ := HB.out
  have BF := hid (HB.out.sets (.string ⟨#[]⟩) (.string ⟨#[]⟩) (.int .i64 0) (.int .i64 0) (.int .i64 0) (.slice none 0 0))
  have GF := hid (Below.put6 HS0.out (q := w.heap.size) (Nat.le_refl _) (.string ⟨#[]⟩) (.string ⟨#[]⟩) (.int .i64 0) (.int .i64 0) (.int .i64 0) (.slice none 0 0))
  go_wp2_with fail
  generalize World.setCell _ ⟨w.heap.size, 5, none⟩ _ = w9 at *
  obtain ⟨f0, f1, f2, f3, f4, f5, _⟩ := BF.out
  exact bodyPost_ret (v := .tuple #[.agg #[.string ⟨#[]⟩, .string ⟨#[]⟩, .int .i64 0, .int .i64 0, .int .i64 0, .slice none 0 0], .int .i64 (bx : Nat), .int .i64 7]) (by simp [results, Tryz.results7, go_sem, f0, f1, f2, f3, f4, f5]) rfl (by rw [PE.out]; exact ⟨GF.out, rfl⟩)
set_option maxRecDepth 100000 in
set_option maxHeartbeats 4000000 in
theorem parse_good (s : ByteArray) (w : World) (RW : List Wd) (hs : s.size ≤ 8192) (hx : cutF s 0 = (RW, none)) (hC : TC (RW.map (wo s))) (hT : KT w) (hS : Tab w) :
    Calls Tryz.prog 7 #[.string s] w fun e w' => PrP (parse s) w e w' := by
  have HB := hid (B6.new w 26 (.string ⟨#[]⟩) (.string ⟨#[]⟩) (.int .i64 0) (.int .i64 0) (.int .i64 0) (.slice none 0 0))
  have HS0 : Hid (Below w.heap.size w (w.alloc (.cells #[.string ⟨#[]⟩, .string ⟨#[]⟩, .int .i64 0, .int .i64 0, .int .i64 0, .slice none 0 0] 26))) := (Below.refl _ _).alloc (Nat.le_refl _) _
  have WS := hid (show w.heap.size < (w.alloc (.cells #[.string ⟨#[]⟩, .string ⟨#[]⟩, .int .i64 0, .int .i64 0, .int .i64 0, .slice none 0 0] 26)).heap.size from by simp)
  have KG := hT.1
  have KH := hid (hT.next HS0.out)
  have TH := hid (hS.next HS0.out)
  have HC := hid (cutY s RW _ hs TH.out hx)
  have WS0 := hid WS.out
  obtain ⟨cf1, cf2⟩ := cut_fin s _ 0 RW (Nat.le_refl _) (Nat.zero_le _) hx
  have LN : RW.length ≤ 9000 := by omega
  have CF := hid cf2
  have CT := hid hC
  have PE := hid (show parse s = parF (RW.map (wo s)) from by unfold parse; rw [if_neg (by omega), hx])
  obtain ⟨R, hR⟩ : ∃ R, parse s = R := ⟨_, rfl⟩
  rw [hR] at PE ⊢
  clear hR hT hS hC cf1 cf2 hx
  go_enter Tryz.func7, Tryz.ntmps7
  go_upto_region 1 with fail
  generalize World.alloc w _ = w1 at *
  go_upto_region 4 with (go_at_call 16; with_reducible refine Calls.mono HC.out ?_; rintro e w2 ⟨v, rfl, h2, b2⟩; replace HB := hid (HB.out.next b2); replace HS0 := hid (nextB HS0.out b2); replace WS := hid (Nat.lt_of_lt_of_le WS.out b2.size); replace KH := hid (KH.out.next b2); have RWH := hid h2; clear b2 h2)
  obtain ⟨a0, cc, bb, rd⟩ := Rd4.of RWH.out
  have pos : 0 < RW.length := by obtain ⟨Q, x, e⟩ := CF.out; rw [e]; simp
  have RDH := hid rd
  have ev := rd.v
  have ea := rd.a pos
  subst ea
  have b2l : bb < w2.heap.size := by obtain ⟨y, hy⟩ : ∃ y, RW[0]? = some y := ⟨_, List.getElem?_eq_getElem pos⟩; exact World.block_lt_of_cell? _ _ (rd.c0 0 y hy)
  subst ev
  clear rd
  have PN := hid (Ps.new RDH.out b2l LN CF.out 48)
  have HS4 := hid (show Below w2.heap.size w2 (w2.alloc (.cells #[.slice (some ⟨bb, 0, none⟩) (RW.map (wo s)).length cc, .int .i64 0, .bool false, .int .i64 0] 48)) from (Below.refl _ _).alloc (Nat.le_refl _) _)
  have wl : RW.length = (RW.map (wo s)).length := by simp
  rw [wl]
  generalize RW.map (wo s) = ws at *
  have hg : 1 ≠ w2.heap.size := by have := WS.out; omega
  replace HB := hid (HB.out.next HS4.out)
  replace HS0 := hid (nextB HS0.out HS4.out)
  replace KH := hid (KH.out.next HS4.out)
  have bge : w.heap.size < bb := by
    rcases World.ownsRow.lt RWH.out bb rfl with ⟨z, _⟩
    have := WS0.out
    omega
  clear HC RWH RDH CF wl TH
  have w2l := WS.out
  go_upto_region 5 with fail
  generalize World.alloc w2 _ = w3 at *
  generalize w2.heap.size = p at *
  clear HS4
  have HC := hid (pstat_any KH.out hg CT.out PN.out)
  obtain ⟨RS, hRS⟩ : ∃ RS, statF ws = RS := ⟨_, rfl⟩
  rw [hRS] at HC
  have PX := hid (show R = parR RS from by rw [PE.out, parF_is, hRS])
  clear hRS PE
  obtain ⟨rt, rl, ro⟩ := RS
  go_upto_region 6 with fail
  with_reducible refine Calls.mono HC.out ?_
  rintro e w5 h5
  obtain ⟨g5, k', v, hl, p5, rfl, t, ⟨sl, hv, nv⟩, ht⟩ := h5
  subst hv
  obtain ⟨sa, sm, sc, rfl⟩ := nv.sl
  replace HB := hid (HB.out.gr g5 (by omega))
  replace HS0 := hid (HS0.out.grown g5 (by have := HS0.out.size; omega) (fun x e => by injection e with e; omega))
  have HP5 := hid p5
  have HN5 := hid nv
  have HT5 := hid ht
  have HL5 := hid hl
  have WS5 := hid g5.size
  clear g5 p5 nv ht hl
  dsimp only
  obtain ⟨rb, hrb⟩ : ∃ rb, rt.isSome = rb := ⟨_, rfl⟩
  rw [hrb]
  have RBH := hid hrb
  clear hrb
  go_upto_region 6 with fail
  have HL5 := HL5.out
  have HL5 : rl = ws.drop k' := HL5
  subst HL5
  have HS6 := hid (show Below w5.heap.size w5 (w5.alloc (.cells #[.string t.op, .string t.name, .int .i64 (t.kind : Nat), .int .i64 t.n, .int .i64 (t.pl : Nat), .slice sa sm sc] 26)) from (Below.refl _ _).alloc (Nat.le_refl _) _)
  have B9 := hid (B6.new w5 26 (.string t.op) (.string t.name) (.int .i64 (t.kind : Nat)) (.int .i64 t.n) (.int .i64 (t.pl : Nat)) (.slice sa sm sc))
  replace HB := hid (HB.out.next HS6.out)
  replace HS0 := hid (nextB HS0.out HS6.out)
  have HP6 := hid (HP5.out.next HS6.out)
  have HN6 := hid ((HN5.out.next HS6.out).weak (m := w.heap.size + 1) (by have := PN.out.pl; omega))
  clear HS6 HP5 HN5 HC HL5
  generalize World.alloc w5 _ = w6 at *
  generalize w5.heap.size = eg at *
  cases rt with
  | none =>
    have rb0 : rb = false := RBH.out.symm
    subst rb0
    have PF := hid (show R = .inr (aw (ws.drop k'), 7) from PX.out)
    obtain ⟨x, cu⟩ := HP6.out.cur
    have XA := hid cu.at_
    have AX := hid (show aw (ws.drop k') = x.a from by rw [cu.dr]; rfl)
    have c0 := HP6.out.c0
    have c1 := HP6.out.c1
    have d0 := cu.d0
    have d1 := cu.d1
    have d2 := cu.d2
    have d3 := cu.d3
    have l1 : (k' : Int) < (ws.length : Int) := by have := HP6.out.lt; omega
    have l2 := HP6.out.len
    clear cu
    obtain ⟨xk, xt, xn, xa⟩ := x
    simp only at XA AX d0 d1 d2 d3
    go_upto_region 7 with fail
    refine wp_region_held_drew (S := (fun W => W.cell? ⟨p, 0, none⟩ = some (.slice (some ⟨bb, 0, none⟩) ws.length cc) ∧ W.cell? ⟨p, 1, none⟩ = some (.int .i64 (k' : Nat)) ∧ W.cell? ⟨bb, k' * 4, none⟩ = some (.int .i64 (xk : Nat)) ∧ W.cell? ⟨bb, k' * 4 + 1, none⟩ = some (.string xt) ∧ W.cell? ⟨bb, k' * 4 + 2, none⟩ = some (.int .i64 (xn : Nat)) ∧ W.cell? ⟨bb, k' * 4 + 3, none⟩ = some (.int .i64 (xa : Nat)))) (by kernel_rfl) ⟨c0, c1, d0, d1, d2, d3⟩ (fun hHeld => ?_)
    have HB7 := hid (HB.out.next (Below.refl w6.heap.size w6).drew)
    have HS7 := hid (nextB HS0.out (Below.refl w6.heap.size w6).drew)
    have HP7 := hid (HP6.out.next (Below.refl w6.heap.size w6).drew)
    generalize w6.drew = wz at *
    obtain ⟨r0, r1, r2, r3, r4, r5, rz⟩ := HB7.out
    have BF := hid (HB7.out.sets (.string ⟨#[]⟩) (.string ⟨#[]⟩) (.int .i64 0) (.int .i64 0) (.int .i64 0) (.slice none 0 0))
    have GF := hid (Below.put6 HS7.out (q := w.heap.size) (Nat.le_refl _) (.string ⟨#[]⟩) (.string ⟨#[]⟩) (.int .i64 0) (.int .i64 0) (.int .i64 0) (.slice none 0 0))
    have pw : p ≠ w.heap.size := by omega
    have bw : bb ≠ w.heap.size := by omega
    have PP := hid (HP7.out.put6 (q := w.heap.size) pw bw (.string ⟨#[]⟩) (.string ⟨#[]⟩) (.int .i64 0) (.int .i64 0) (.int .i64 0) (.slice none 0 0))
    refine take2 rfl (i := 0) (v := .agg #[.string ⟨#[]⟩, .string ⟨#[]⟩, .int .i64 0, .int .i64 0, .int .i64 0, .slice none 0 0]) (d := 31) rfl rfl (by kernel_rfl) (by kernel_rfl) (by kernel_rfl) (fun _ _ _ h => h) (Or.inl ⟨by rfl, ?_⟩) hHeld ?_
    · (intro W hW; (try dsimp only at hW); go_simp)
    try simp only [Act.put, List.setIfInBounds_toArray, List.set_cons_zero, List.set_cons_succ]
    refine take2 rfl (i := 1) (v := .pointer (some ⟨p, 0, none⟩)) (d := 32) rfl rfl (by kernel_rfl) (by kernel_rfl) (by kernel_rfl) (fun _ _ _ h => h) (Or.inl ⟨by rfl, ?_⟩) hHeld ?_
    · (intro W hW; (try dsimp only at hW); go_simp)
    try simp only [Act.put, List.setIfInBounds_toArray, List.set_cons_zero, List.set_cons_succ]
    refine take2 rfl (i := 2) (v := .slice (some ⟨bb, 0, none⟩) ws.length cc) (d := 33) rfl rfl (by kernel_rfl) (by kernel_rfl) (by kernel_rfl) (fun _ _ _ h => h) (Or.inl ⟨by rfl, ?_⟩) hHeld ?_
    · (intro W hW; (try dsimp only at hW); go_simp)
    try simp only [Act.put, List.setIfInBounds_toArray, List.set_cons_zero, List.set_cons_succ]
    refine take2 rfl (i := 3) (v := .pointer (some ⟨p, 1, none⟩)) (d := 34) rfl rfl (by kernel_rfl) (by kernel_rfl) (by kernel_rfl) (fun _ _ _ h => h) (Or.inl ⟨by rfl, ?_⟩) hHeld ?_
    · (intro W hW; (try dsimp only at hW); go_simp)
    try simp only [Act.put, List.setIfInBounds_toArray, List.set_cons_zero, List.set_cons_succ]
    refine take2 rfl (i := 4) (v := .int .i64 (k' : Nat)) (d := 35) rfl rfl (by kernel_rfl) (by kernel_rfl) (by kernel_rfl) (fun _ _ _ h => h) (Or.inl ⟨by rfl, ?_⟩) hHeld ?_
    · (intro W hW; (try dsimp only at hW); go_simp)
    try simp only [Act.put, List.setIfInBounds_toArray, List.set_cons_zero, List.set_cons_succ]
    refine take2 rfl (i := 5) (v := .pointer (some ⟨bb, k' * 4, none⟩)) (d := 36) rfl rfl (by kernel_rfl) (by kernel_rfl) (by kernel_rfl) (fun _ _ _ h => h) (Or.inl ⟨by rfl, ?_⟩) hHeld ?_
    · (intro W hW; (try dsimp only at hW); go_simp)
    try simp only [Act.put, List.setIfInBounds_toArray, List.set_cons_zero, List.set_cons_succ]
    refine take2 rfl (i := 6) (v := .pointer (some ⟨bb, k' * 4 + 3, none⟩)) (d := 37) rfl rfl (by kernel_rfl) (by kernel_rfl) (by kernel_rfl) (fun _ _ _ h => h) (Or.inl ⟨by rfl, ?_⟩) hHeld ?_
    · (intro W hW; (try dsimp only at hW); go_simp)
    try simp only [Act.put, List.setIfInBounds_toArray, List.set_cons_zero, List.set_cons_succ]
    refine take2 rfl (i := 7) (v := .int .i64 (xa : Nat)) (d := 38) rfl rfl (by kernel_rfl) (by kernel_rfl) (by kernel_rfl) (fun _ _ _ h => h) (Or.inl ⟨by rfl, ?_⟩) hHeld ?_
    · (intro W hW; (try dsimp only at hW); go_simp)
    try simp only [Act.put, List.setIfInBounds_toArray, List.set_cons_zero, List.set_cons_succ]
    refine wpAnyH_ready (rs := [8]) (by kernel_rfl) (by simp) ?_
    refine cons2 rfl rfl (fun K9 hK => ?_)
    go_simp
    refine hK.out _ _ (⟨PP.out.c0, PP.out.c1, PP.out.w0 _ _ XA.out, PP.out.w1 _ _ XA.out, PP.out.w2 _ _ XA.out, PP.out.w3 _ _ XA.out⟩) (fun hX => ?_)
    clear hK K9 hHeld
    have hHeld := hX
    clear hX
    try simp only [Act.put, List.setIfInBounds_toArray, List.set_cons_zero, List.set_cons_succ]
    refine take2 rfl (i := 9) (v := .int .i64 (xa : Nat)) (d := 3) rfl rfl (by kernel_rfl) (by kernel_rfl) (by kernel_rfl) (fun _ _ _ h => h) (Or.inl ⟨by rfl, ?_⟩) hHeld ?_
    · (intro W hW; (try dsimp only at hW); go_simp)
    try simp only [Act.put, List.setIfInBounds_toArray, List.set_cons_zero, List.set_cons_succ]
    refine take2 rfl (i := 10) (v := .int .i64 7) (d := 4) rfl rfl (by kernel_rfl) (by kernel_rfl) (by kernel_rfl) (fun _ _ _ h => h) (Or.inl ⟨by rfl, ?_⟩) hHeld ?_
    · (intro W hW; (try dsimp only at hW); go_simp)
    try simp only [Act.put, List.setIfInBounds_toArray, List.set_cons_zero, List.set_cons_succ]
    refine wpAnyH_done (by kernel_rfl) ?_ _
    go_wp2
    generalize World.setCell _ ⟨w.heap.size, 5, none⟩ _ = w9 at *
    obtain ⟨f0, f1, f2, f3, f4, f5, _⟩ := BF.out
    exact bodyPost_ret (v := .tuple #[.agg #[.string ⟨#[]⟩, .string ⟨#[]⟩, .int .i64 0, .int .i64 0, .int .i64 0, .slice none 0 0], .int .i64 (xa : Nat), .int .i64 7]) (by simp [results, Tryz.results7, go_sem, f0, f1, f2, f3, f4, f5]) rfl (by rw [PF.out, AX.out]; exact ⟨GF.out, rfl⟩)

  | some t0 =>
    have rb1 : rb = true := RBH.out.symm
    subst rb1
    obtain rfl : t = t0 := HT5.out t0 rfl
    cases ro with
    | some ax =>
      have PF := hid (show R = .inr (ax, 2) from PX.out)
      have c2 := HP6.out.c2
      have c3 := HP6.out.c3
      simp only [Option.isSome_some, Option.getD_some] at c2 c3
      go_upto_region 9 with fail
      refine wp_region_held_drew (S := (fun W => W.cell? ⟨p, 3, none⟩ = some (.int .i64 (ax : Nat)))) (by kernel_rfl) c3 (fun hHeld => ?_)
      have HB7 := hid (HB.out.next (Below.refl w6.heap.size w6).drew)
      have HS7 := hid (nextB HS0.out (Below.refl w6.heap.size w6).drew)
      have HP7 := hid (HP6.out.next (Below.refl w6.heap.size w6).drew)
      generalize w6.drew = wz at *
      obtain ⟨r0, r1, r2, r3, r4, r5, rz⟩ := HB7.out
      have BF := hid (HB7.out.sets (.string ⟨#[]⟩) (.string ⟨#[]⟩) (.int .i64 0) (.int .i64 0) (.int .i64 0) (.slice none 0 0))
      have GF := hid (Below.put6 HS7.out (q := w.heap.size) (Nat.le_refl _) (.string ⟨#[]⟩) (.string ⟨#[]⟩) (.int .i64 0) (.int .i64 0) (.int .i64 0) (.slice none 0 0))
      have pw : p ≠ w.heap.size := by omega
      have bw : bb ≠ w.heap.size := by omega
      have PP := hid (HP7.out.put6 (q := w.heap.size) pw bw (.string ⟨#[]⟩) (.string ⟨#[]⟩) (.int .i64 0) (.int .i64 0) (.int .i64 0) (.slice none 0 0))
      refine take2 rfl (i := 0) (v := .agg #[.string ⟨#[]⟩, .string ⟨#[]⟩, .int .i64 0, .int .i64 0, .int .i64 0, .slice none 0 0]) (d := 42) rfl rfl (by kernel_rfl) (by kernel_rfl) (by kernel_rfl) (fun _ _ _ h => h) (Or.inl ⟨by rfl, ?_⟩) hHeld ?_
      · (intro W hW; (try dsimp only at hW); go_simp)
      try simp only [Act.put, List.setIfInBounds_toArray, List.set_cons_zero, List.set_cons_succ]
      refine take2 rfl (i := 1) (v := .pointer (some ⟨p, 3, none⟩)) (d := 43) rfl rfl (by kernel_rfl) (by kernel_rfl) (by kernel_rfl) (fun _ _ _ h => h) (Or.inl ⟨by rfl, ?_⟩) hHeld ?_
      · (intro W hW; (try dsimp only at hW); go_simp)
      try simp only [Act.put, List.setIfInBounds_toArray, List.set_cons_zero, List.set_cons_succ]
      refine take2 rfl (i := 2) (v := .int .i64 (ax : Nat)) (d := 44) rfl rfl (by kernel_rfl) (by kernel_rfl) (by kernel_rfl) (fun _ _ _ h => h) (Or.inl ⟨by rfl, ?_⟩) hHeld ?_
      · (intro W hW; (try dsimp only at hW); go_simp)
      try simp only [Act.put, List.setIfInBounds_toArray, List.set_cons_zero, List.set_cons_succ]
      refine wpAnyH_ready (rs := [3]) (by kernel_rfl) (by simp) ?_
      refine cons2 rfl rfl (fun K9 hK => ?_)
      go_simp
      refine hK.out _ _ (PP.out.c3) (fun hX => ?_)
      clear hK K9 hHeld
      have hHeld := hX
      clear hX
      try simp only [Act.put, List.setIfInBounds_toArray, List.set_cons_zero, List.set_cons_succ]
      refine take2 rfl (i := 4) (v := .int .i64 (ax : Nat)) (d := 3) rfl rfl (by kernel_rfl) (by kernel_rfl) (by kernel_rfl) (fun _ _ _ h => h) (Or.inl ⟨by rfl, ?_⟩) hHeld ?_
      · (intro W hW; (try dsimp only at hW); go_simp)
      try simp only [Act.put, List.setIfInBounds_toArray, List.set_cons_zero, List.set_cons_succ]
      refine take2 rfl (i := 5) (v := .int .i64 2) (d := 4) rfl rfl (by kernel_rfl) (by kernel_rfl) (by kernel_rfl) (fun _ _ _ h => h) (Or.inl ⟨by rfl, ?_⟩) hHeld ?_
      · (intro W hW; (try dsimp only at hW); go_simp)
      try simp only [Act.put, List.setIfInBounds_toArray, List.set_cons_zero, List.set_cons_succ]
      refine wpAnyH_done (by kernel_rfl) ?_ _
      go_wp2
      generalize World.setCell _ ⟨w.heap.size, 5, none⟩ _ = w9 at *
      obtain ⟨f0, f1, f2, f3, f4, f5, _⟩ := BF.out
      exact bodyPost_ret (v := .tuple #[.agg #[.string ⟨#[]⟩, .string ⟨#[]⟩, .int .i64 0, .int .i64 0, .int .i64 0, .slice none 0 0], .int .i64 (ax : Nat), .int .i64 2]) (by simp [results, Tryz.results7, go_sem, f0, f1, f2, f3, f4, f5]) rfl (by rw [PF.out]; exact ⟨GF.out, rfl⟩)

    | none =>
      have PF := hid (show R = .inl t from PX.out)
      have c2 := HP6.out.c2
      simp only [Option.isSome_none] at c2
      obtain ⟨n0, n1, n2, n3, n4, n5, _⟩ := B9.out
      obtain ⟨r0, r1, r2, r3, r4, r5, rz⟩ := HB.out
      have BF := hid (HB.out.sets (.string t.op) (.string t.name) (.int .i64 (t.kind : Nat)) (.int .i64 t.n) (.int .i64 (t.pl : Nat)) (.slice sa sm sc))
      have GF := hid (Below.put6 HS0.out (q := w.heap.size) (Nat.le_refl _) (.string t.op) (.string t.name) (.int .i64 (t.kind : Nat)) (.int .i64 t.n) (.int .i64 (t.pl : Nat)) (.slice sa sm sc))
      have NF := hid (HN6.out.put6w (q := w.heap.size) (m := w.heap.size) (by omega) (.string t.op) (.string t.name) (.int .i64 (t.kind : Nat)) (.int .i64 t.n) (.int .i64 (t.pl : Nat)) (.slice sa sm sc))
      go_wp2_with fail
      generalize World.setCell _ ⟨w.heap.size, 5, none⟩ _ = w9 at *
      obtain ⟨f0, f1, f2, f3, f4, f5, _⟩ := BF.out
      exact bodyPost_ret (v := .tuple #[.agg #[.string t.op, .string t.name, .int .i64 (t.kind : Nat), .int .i64 t.n, .int .i64 (t.pl : Nat), .slice sa sm sc], .int .i64 0, .int .i64 0]) (by simp [results, Tryz.results7, go_sem, f0, f1, f2, f3, f4, f5]) rfl (by rw [PF.out]; exact ⟨GF.out, _, rfl, ⟨_, rfl, NF.out⟩⟩)
end Go.Proofs.YtiikdmnmfmfpdaaGreatDoor

