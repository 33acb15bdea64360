/- The walk over the parser's expr. -/
import Derived.Test.YtobolipjgkabhaaDoorSh
import Derived.BigQuiet
import Derived.Deep.RegionHeld3
namespace Go.Proofs.YtobolipjgkabhaaDoor
open Go.RowKit
set_option linter.unusedVariables false
set_option linter.unusedSimpArgs false

set_option maxRecDepth 100000 in
set_option maxHeartbeats 4000000 in
theorem pexpr_any {w : World} {p b c : Nat} {ws : List Wo} {k : Nat} {o : Option Nat} (deep : Nat) {U E : Ex} {N : Nat} (hE : EC E N p b c ws) (hT : KT w) (hN : ws.length - k ≤ N) (hD : deep + (ws.length - k) ≤ 10000) (hg : 1 ≠ p)
    (hB : ∀ (w : World) (o : Option Nat), Ps w p b c ws k o → KT w → Calls Tryd.prog 67 #[.pointer (some ⟨p, 0, none⟩), .int .i64 0, .int .i64 (deep : Nat)] w fun e w' => Rp w w' p b c ws k e (binF (unF U E deep) 5 (ws.drop k) o)) (h : Ps w p b c ws k o) :
    Calls Tryd.prog 61 #[.pointer (some ⟨p, 0, none⟩), .int .i64 (deep : Nat)] w fun e w' => Rp w w' p b c ws k e (exprF U E deep (ws.drop k) o) := by
  have rp := h.pl
  have rb := h.bl
  have HB := hid (B6.new w 26 (.string ⟨#[]⟩) (.string ⟨#[]⟩) (.int .i64 0) (.int .i64 0) (.int .i64 0) (.slice none 0 0))
  have HS0 : Hid (Below w.heap.size w (w.alloc (.cells #[.string ⟨#[]⟩, .string ⟨#[]⟩, .int .i64 0, .int .i64 0, .int .i64 0, .slice none 0 0] 26))) := (Below.refl _ _).alloc (Nat.le_refl _) _
  have HP := hid (h.next HS0.out)
  have HG := hid ((Gr.refl w p).below HS0.out)
  have WS := hid (show w.heap.size < (w.alloc (.cells #[.string ⟨#[]⟩, .string ⟨#[]⟩, .int .i64 0, .int .i64 0, .int .i64 0, .slice none 0 0] 26)).heap.size from by simp)
  have HT := hid (hT.next HS0.out)
  have hd : (deep : Int) ≤ 10000 := by omega
  have EH := hid hE
  have BH := hid hB
  obtain ⟨o2, ho2⟩ : ∃ o2, (if 40 < deep then passO o (ws.drop k) else o) = o2 := ⟨_, rfl⟩
  have RX := hid (show exprF U E deep (ws.drop k) o = if eqB (tw (ws.drop k)) ⟨#[105, 102]⟩ = true then formF E deep [sIf, sEXPR, sThen, sEXPR, sElse, sEXPR] (op0 sIf (aw (ws.drop k))) (ws.drop k) o2 else binF (unF U E deep) 5 (ws.drop k) o2 from by unfold exprF; rw [ho2]; rfl)
  obtain ⟨R, hR⟩ : ∃ R, exprF U E deep (ws.drop k) o = R := ⟨_, rfl⟩
  rw [hR] at RX ⊢
  have O2 := hid ho2
  clear h hT hB hR ho2
  go_enter Tryd.func61, Tryd.ntmps61
  go_upto_region 1 with fail
  generalize World.alloc w _ = w1 at *
  by_cases z : 40 < deep
  · have z' : 40 < (deep : Int) := by omega
    have PA := hid (pass_any HP.out)
    rw [show passO o (ws.drop k) = o2 from by rw [← O2.out, if_pos z]] at PA
    go_upto_region 3 with (go_at_call 48; with_reducible refine Calls.mono PA.out ?_; rintro e w2 ⟨rfl, p2, g2⟩; replace HP := hid p2; replace HG := hid (HG.out.trans g2); replace HB := hid (HB.out.gr g2 (by omega)); replace WS := hid (Nat.lt_of_lt_of_le WS.out g2.size); replace HT := hid (HT.out.gr g2 hg); clear p2 g2)
    have IC := hid (is_any HP.out ⟨#[105, 102]⟩)
    cases y : eqB (tw (ws.drop k)) ⟨#[105, 102]⟩
    · rw [y] at IC RX
      have RX' := RX.out
      subst RX'
      go_upto_region 5 with (go_at_call 47; with_reducible refine Calls.mono IC.out ?_; rintro e w3 ⟨rfl, b3⟩; have HP3 := hid (HP.out.next b3); have HG3 := hid (HG.out.below b3); have HB3 := hid (HB.out.next b3); have WS3 := hid (Nat.lt_of_lt_of_le WS.out b3.size); have HT3 := hid (HT.out.next b3); clear b3)
      have HC := hid (BH.out _ _ HP3.out HT3.out)
      go_wp2_with (go_at_call 67; with_reducible refine Calls.mono (HC.out) ?_; rintro e w5 h5; obtain ⟨g5, k', t, sa, sm, sc, ok, hk, hk2, hl, p5, rfl, hok, nv, ht⟩ := h5.parts; have HK2 := hid hk2; clear hk2; have HR5 := hid (HB3.out.gr g5 (by omega)); have HP5 := hid p5; have HG5 := hid (HG3.out.trans g5); have HN5 := hid nv; have HT5 := hid ht; have HL5 := hid hl; have HO5 := hid hok; clear h5 g5 p5 nv ht hl hok; obtain ⟨r0, r1, r2, r3, r4, r5, rz⟩ := HR5.out; have BF := hid (HR5.out.sets (.string t.op) (.string t.name) (.int .i64 (t.kind : Nat)) (.int .i64 t.n) (.int .i64 (t.pl : Nat)) (.slice sa sm sc)); have PF := hid (HP5.out.put6 (q := w.heap.size) (by omega) (by omega) (.string t.op) (.string t.name) (.int .i64 (t.kind : Nat)) (.int .i64 t.n) (.int .i64 (t.pl : Nat)) (.slice sa sm sc)); have GF := hid (HG5.out.put6 (q := w.heap.size) (by omega) (.string t.op) (.string t.name) (.int .i64 (t.kind : Nat)) (.int .i64 t.n) (.int .i64 (t.pl : Nat)) (.slice sa sm sc)); have NF := hid (HN5.out.put6w (q := w.heap.size) (m := w.heap.size) (by have := WS3.out; omega) (.string t.op) (.string t.name) (.int .i64 (t.kind : Nat)) (.int .i64 t.n) (.int .i64 (t.pl : Nat)) (.slice sa sm sc)))
      generalize World.setCell _ ⟨w.heap.size, 5, none⟩ _ = w6 at *
      obtain ⟨f0, f1, f2, f3, f4, f5, _⟩ := BF.out
      exact bodyPost_ret (v := .tuple #[.agg #[.string t.op, .string t.name, .int .i64 (t.kind : Nat), .int .i64 t.n, .int .i64 (t.pl : Nat), .slice sa sm sc], .bool ok]) (by simp [results, Tryd.results61, go_sem, f0, f1, f2, f3, f4, f5]) rfl (⟨GF.out, k', _, hk, fun e => HK2.out (by rw [← HO5.out]; exact e), HL5.out, PF.out, congrArg (fun x => Ending.returned (.tuple #[.agg #[.string t.op, .string t.name, .int .i64 (t.kind : Nat), .int .i64 t.n, .int .i64 (t.pl : Nat), .slice sa sm sc], .bool x])) HO5.out.symm, t, ⟨_, rfl, NF.out⟩, HT5.out⟩)
    · rw [y] at IC RX
      have RX' := RX.out
      subst RX'
      go_upto_region 4 with (go_at_call 47; with_reducible refine Calls.mono IC.out ?_; rintro e w3 ⟨rfl, b3⟩; have HP3 := hid (HP.out.next b3); replace HG := hid (HG.out.below b3); replace HB := hid (HB.out.next b3); replace WS := hid (Nat.lt_of_lt_of_le WS.out b3.size); have HT3 := hid (HT.out.next b3); clear b3)
      have HS2 := hid (show Below w3.heap.size w3 (w3.alloc (.cells #[.string ⟨#[105, 102]⟩, .string ⟨#[69, 88, 80, 82]⟩, .string ⟨#[116, 104, 101, 110]⟩, .string ⟨#[69, 88, 80, 82]⟩, .string ⟨#[101, 108, 115, 101]⟩, .string ⟨#[69, 88, 80, 82]⟩] 9)) from (Below.refl _ _).alloc (Nat.le_refl _) _)
      have HC := hid (show Calls Tryd.prog 30 #[.pointer (some ⟨p, 0, none⟩), .string ⟨#[105, 102]⟩, .int .i64 (deep : Nat), .slice (some ⟨w3.heap.size, 0, none⟩) 6 6] (w3.alloc (.cells #[.string ⟨#[105, 102]⟩, .string ⟨#[69, 88, 80, 82]⟩, .string ⟨#[116, 104, 101, 110]⟩, .string ⟨#[69, 88, 80, 82]⟩, .string ⟨#[101, 108, 115, 101]⟩, .string ⟨#[69, 88, 80, 82]⟩] 9)) (fun e w' => Rp (w3.alloc (.cells #[.string ⟨#[105, 102]⟩, .string ⟨#[69, 88, 80, 82]⟩, .string ⟨#[116, 104, 101, 110]⟩, .string ⟨#[69, 88, 80, 82]⟩, .string ⟨#[101, 108, 115, 101]⟩, .string ⟨#[69, 88, 80, 82]⟩] 9)) w' p b c ws k e (formF E deep [⟨#[105, 102]⟩, ⟨#[69, 88, 80, 82]⟩, ⟨#[116, 104, 101, 110]⟩, ⟨#[69, 88, 80, 82]⟩, ⟨#[101, 108, 115, 101]⟩, ⟨#[69, 88, 80, 82]⟩] (op0 ⟨#[105, 102]⟩ (aw (ws.drop k))) (ws.drop k) o2)) from pform_any ⟨#[105, 102]⟩ deep [⟨#[105, 102]⟩, ⟨#[69, 88, 80, 82]⟩, ⟨#[116, 104, 101, 110]⟩, ⟨#[69, 88, 80, 82]⟩, ⟨#[101, 108, 115, 101]⟩, ⟨#[69, 88, 80, 82]⟩] w3.heap.size hE (HT3.out.next HS2.out) hN hD (pa_new w3 [⟨#[105, 102]⟩, ⟨#[69, 88, 80, 82]⟩, ⟨#[116, 104, 101, 110]⟩, ⟨#[69, 88, 80, 82]⟩, ⟨#[101, 108, 115, 101]⟩, ⟨#[69, 88, 80, 82]⟩]) (by have := HP3.out.pl; omega) (by decide) ⟨_, rfl, by decide⟩ hg (ne_all (by decide)) (HP3.out.next HS2.out))
      have HB2 := hid (HB.out.next HS2.out)
      have HG2 := hid (HG.out.below HS2.out)
      have WS2 := hid (Nat.lt_of_lt_of_le WS.out HS2.out.size)
      go_wp2_with (go_at_call 30; with_reducible refine Calls.mono (HC.out) ?_; rintro e w5 h5; obtain ⟨g5, k', t, sa, sm, sc, ok, hk, hk2, hl, p5, rfl, hok, nv, ht⟩ := h5.parts; have HK2 := hid hk2; clear hk2; have HR5 := hid (HB2.out.gr g5 (by omega)); have HP5 := hid p5; have HG5 := hid (HG2.out.trans g5); have HN5 := hid nv; have HT5 := hid ht; have HL5 := hid hl; have HO5 := hid hok; clear h5 g5 p5 nv ht hl hok; obtain ⟨r0, r1, r2, r3, r4, r5, rz⟩ := HR5.out; have BF := hid (HR5.out.sets (.string t.op) (.string t.name) (.int .i64 (t.kind : Nat)) (.int .i64 t.n) (.int .i64 (t.pl : Nat)) (.slice sa sm sc)); have PF := hid (HP5.out.put6 (q := w.heap.size) (by omega) (by omega) (.string t.op) (.string t.name) (.int .i64 (t.kind : Nat)) (.int .i64 t.n) (.int .i64 (t.pl : Nat)) (.slice sa sm sc)); have GF := hid (HG5.out.put6 (q := w.heap.size) (by omega) (.string t.op) (.string t.name) (.int .i64 (t.kind : Nat)) (.int .i64 t.n) (.int .i64 (t.pl : Nat)) (.slice sa sm sc)); have NF := hid (HN5.out.put6w (q := w.heap.size) (m := w.heap.size) (by have := WS2.out; omega) (.string t.op) (.string t.name) (.int .i64 (t.kind : Nat)) (.int .i64 t.n) (.int .i64 (t.pl : Nat)) (.slice sa sm sc)))
      generalize World.setCell _ ⟨w.heap.size, 5, none⟩ _ = w6 at *
      obtain ⟨f0, f1, f2, f3, f4, f5, _⟩ := BF.out
      exact bodyPost_ret (v := .tuple #[.agg #[.string t.op, .string t.name, .int .i64 (t.kind : Nat), .int .i64 t.n, .int .i64 (t.pl : Nat), .slice sa sm sc], .bool ok]) (by simp [results, Tryd.results61, go_sem, f0, f1, f2, f3, f4, f5]) rfl (⟨GF.out, k', _, hk, fun e => HK2.out (by rw [← HO5.out]; exact e), HL5.out, PF.out, congrArg (fun x => Ending.returned (.tuple #[.agg #[.string t.op, .string t.name, .int .i64 (t.kind : Nat), .int .i64 t.n, .int .i64 (t.pl : Nat), .slice sa sm sc], .bool x])) HO5.out.symm, t, ⟨_, rfl, NF.out⟩, HT5.out⟩)
  · have z' : ¬ 40 < (deep : Int) := by omega
    have eo : o = o2 := by rw [← O2.out, if_neg z]
    subst eo
    go_upto_region 3 with fail
    have IC := hid (is_any HP.out ⟨#[105, 102]⟩)
    cases y : eqB (tw (ws.drop k)) ⟨#[105, 102]⟩
    · rw [y] at IC RX
      have RX' := RX.out
      subst RX'
      go_upto_region 5 with (go_at_call 47; with_reducible refine Calls.mono IC.out ?_; rintro e w3 ⟨rfl, b3⟩; have HP3 := hid (HP.out.next b3); have HG3 := hid (HG.out.below b3); have HB3 := hid (HB.out.next b3); have WS3 := hid (Nat.lt_of_lt_of_le WS.out b3.size); have HT3 := hid (HT.out.next b3); clear b3)
      have HC := hid (BH.out _ _ HP3.out HT3.out)
      go_wp2_with (go_at_call 67; with_reducible refine Calls.mono (HC.out) ?_; rintro e w5 h5; obtain ⟨g5, k', t, sa, sm, sc, ok, hk, hk2, hl, p5, rfl, hok, nv, ht⟩ := h5.parts; have HK2 := hid hk2; clear hk2; have HR5 := hid (HB3.out.gr g5 (by omega)); have HP5 := hid p5; have HG5 := hid (HG3.out.trans g5); have HN5 := hid nv; have HT5 := hid ht; have HL5 := hid hl; have HO5 := hid hok; clear h5 g5 p5 nv ht hl hok; obtain ⟨r0, r1, r2, r3, r4, r5, rz⟩ := HR5.out; have BF := hid (HR5.out.sets (.string t.op) (.string t.name) (.int .i64 (t.kind : Nat)) (.int .i64 t.n) (.int .i64 (t.pl : Nat)) (.slice sa sm sc)); have PF := hid (HP5.out.put6 (q := w.heap.size) (by omega) (by omega) (.string t.op) (.string t.name) (.int .i64 (t.kind : Nat)) (.int .i64 t.n) (.int .i64 (t.pl : Nat)) (.slice sa sm sc)); have GF := hid (HG5.out.put6 (q := w.heap.size) (by omega) (.string t.op) (.string t.name) (.int .i64 (t.kind : Nat)) (.int .i64 t.n) (.int .i64 (t.pl : Nat)) (.slice sa sm sc)); have NF := hid (HN5.out.put6w (q := w.heap.size) (m := w.heap.size) (by have := WS3.out; omega) (.string t.op) (.string t.name) (.int .i64 (t.kind : Nat)) (.int .i64 t.n) (.int .i64 (t.pl : Nat)) (.slice sa sm sc)))
      generalize World.setCell _ ⟨w.heap.size, 5, none⟩ _ = w6 at *
      obtain ⟨f0, f1, f2, f3, f4, f5, _⟩ := BF.out
      exact bodyPost_ret (v := .tuple #[.agg #[.string t.op, .string t.name, .int .i64 (t.kind : Nat), .int .i64 t.n, .int .i64 (t.pl : Nat), .slice sa sm sc], .bool ok]) (by simp [results, Tryd.results61, go_sem, f0, f1, f2, f3, f4, f5]) rfl (⟨GF.out, k', _, hk, fun e => HK2.out (by rw [← HO5.out]; exact e), HL5.out, PF.out, congrArg (fun x => Ending.returned (.tuple #[.agg #[.string t.op, .string t.name, .int .i64 (t.kind : Nat), .int .i64 t.n, .int .i64 (t.pl : Nat), .slice sa sm sc], .bool x])) HO5.out.symm, t, ⟨_, rfl, NF.out⟩, HT5.out⟩)
    · rw [y] at IC RX
      have RX' := RX.out
      subst RX'
      go_upto_region 4 with (go_at_call 47; with_reducible refine Calls.mono IC.out ?_; rintro e w3 ⟨rfl, b3⟩; have HP3 := hid (HP.out.next b3); replace HG := hid (HG.out.below b3); replace HB := hid (HB.out.next b3); replace WS := hid (Nat.lt_of_lt_of_le WS.out b3.size); have HT3 := hid (HT.out.next b3); clear b3)
      have HS2 := hid (show Below w3.heap.size w3 (w3.alloc (.cells #[.string ⟨#[105, 102]⟩, .string ⟨#[69, 88, 80, 82]⟩, .string ⟨#[116, 104, 101, 110]⟩, .string ⟨#[69, 88, 80, 82]⟩, .string ⟨#[101, 108, 115, 101]⟩, .string ⟨#[69, 88, 80, 82]⟩] 9)) from (Below.refl _ _).alloc (Nat.le_refl _) _)
      have HC := hid (show Calls Tryd.prog 30 #[.pointer (some ⟨p, 0, none⟩), .string ⟨#[105, 102]⟩, .int .i64 (deep : Nat), .slice (some ⟨w3.heap.size, 0, none⟩) 6 6] (w3.alloc (.cells #[.string ⟨#[105, 102]⟩, .string ⟨#[69, 88, 80, 82]⟩, .string ⟨#[116, 104, 101, 110]⟩, .string ⟨#[69, 88, 80, 82]⟩, .string ⟨#[101, 108, 115, 101]⟩, .string ⟨#[69, 88, 80, 82]⟩] 9)) (fun e w' => Rp (w3.alloc (.cells #[.string ⟨#[105, 102]⟩, .string ⟨#[69, 88, 80, 82]⟩, .string ⟨#[116, 104, 101, 110]⟩, .string ⟨#[69, 88, 80, 82]⟩, .string ⟨#[101, 108, 115, 101]⟩, .string ⟨#[69, 88, 80, 82]⟩] 9)) w' p b c ws k e (formF E deep [⟨#[105, 102]⟩, ⟨#[69, 88, 80, 82]⟩, ⟨#[116, 104, 101, 110]⟩, ⟨#[69, 88, 80, 82]⟩, ⟨#[101, 108, 115, 101]⟩, ⟨#[69, 88, 80, 82]⟩] (op0 ⟨#[105, 102]⟩ (aw (ws.drop k))) (ws.drop k) o)) from pform_any ⟨#[105, 102]⟩ deep [⟨#[105, 102]⟩, ⟨#[69, 88, 80, 82]⟩, ⟨#[116, 104, 101, 110]⟩, ⟨#[69, 88, 80, 82]⟩, ⟨#[101, 108, 115, 101]⟩, ⟨#[69, 88, 80, 82]⟩] w3.heap.size hE (HT3.out.next HS2.out) hN hD (pa_new w3 [⟨#[105, 102]⟩, ⟨#[69, 88, 80, 82]⟩, ⟨#[116, 104, 101, 110]⟩, ⟨#[69, 88, 80, 82]⟩, ⟨#[101, 108, 115, 101]⟩, ⟨#[69, 88, 80, 82]⟩]) (by have := HP3.out.pl; omega) (by decide) ⟨_, rfl, by decide⟩ hg (ne_all (by decide)) (HP3.out.next HS2.out))
      have HB2 := hid (HB.out.next HS2.out)
      have HG2 := hid (HG.out.below HS2.out)
      have WS2 := hid (Nat.lt_of_lt_of_le WS.out HS2.out.size)
      go_wp2_with (go_at_call 30; with_reducible refine Calls.mono (HC.out) ?_; rintro e w5 h5; obtain ⟨g5, k', t, sa, sm, sc, ok, hk, hk2, hl, p5, rfl, hok, nv, ht⟩ := h5.parts; have HK2 := hid hk2; clear hk2; have HR5 := hid (HB2.out.gr g5 (by omega)); have HP5 := hid p5; have HG5 := hid (HG2.out.trans g5); have HN5 := hid nv; have HT5 := hid ht; have HL5 := hid hl; have HO5 := hid hok; clear h5 g5 p5 nv ht hl hok; obtain ⟨r0, r1, r2, r3, r4, r5, rz⟩ := HR5.out; have BF := hid (HR5.out.sets (.string t.op) (.string t.name) (.int .i64 (t.kind : Nat)) (.int .i64 t.n) (.int .i64 (t.pl : Nat)) (.slice sa sm sc)); have PF := hid (HP5.out.put6 (q := w.heap.size) (by omega) (by omega) (.string t.op) (.string t.name) (.int .i64 (t.kind : Nat)) (.int .i64 t.n) (.int .i64 (t.pl : Nat)) (.slice sa sm sc)); have GF := hid (HG5.out.put6 (q := w.heap.size) (by omega) (.string t.op) (.string t.name) (.int .i64 (t.kind : Nat)) (.int .i64 t.n) (.int .i64 (t.pl : Nat)) (.slice sa sm sc)); have NF := hid (HN5.out.put6w (q := w.heap.size) (m := w.heap.size) (by have := WS2.out; omega) (.string t.op) (.string t.name) (.int .i64 (t.kind : Nat)) (.int .i64 t.n) (.int .i64 (t.pl : Nat)) (.slice sa sm sc)))
      generalize World.setCell _ ⟨w.heap.size, 5, none⟩ _ = w6 at *
      obtain ⟨f0, f1, f2, f3, f4, f5, _⟩ := BF.out
      exact bodyPost_ret (v := .tuple #[.agg #[.string t.op, .string t.name, .int .i64 (t.kind : Nat), .int .i64 t.n, .int .i64 (t.pl : Nat), .slice sa sm sc], .bool ok]) (by simp [results, Tryd.results61, go_sem, f0, f1, f2, f3, f4, f5]) rfl (⟨GF.out, k', _, hk, fun e => HK2.out (by rw [← HO5.out]; exact e), HL5.out, PF.out, congrArg (fun x => Ending.returned (.tuple #[.agg #[.string t.op, .string t.name, .int .i64 (t.kind : Nat), .int .i64 t.n, .int .i64 (t.pl : Nat), .slice sa sm sc], .bool x])) HO5.out.symm, t, ⟨_, rfl, NF.out⟩, HT5.out⟩)

end Go.Proofs.YtobolipjgkabhaaDoor
