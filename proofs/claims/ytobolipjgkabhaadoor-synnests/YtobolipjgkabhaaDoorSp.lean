/- The walks over the parser's decl and statute. -/
import Derived.Test.YtobolipjgkabhaaDoorSn
import Derived.BigQuiet
import Derived.Deep.RegionHeld3
namespace Go.Proofs.YtobolipjgkabhaaDoor
open Go.RowKit
set_option linter.unusedVariables false
set_option linter.unusedSimpArgs false

/-- What a call of table answers where that word stands. -/
def TC (ws : List Wo) : Prop := ∀ (w : World) (p b c k : Nat) (o : Option Nat), eqB (tw (ws.drop k)) ⟨#[116, 97, 98, 108, 101]⟩ = true → 1 ≠ p → Ps w p b c ws k o → KT w → Calls Tryd.prog 31 #[.pointer (some ⟨p, 0, none⟩)] w fun e w' => Rp w w' p b c ws k e (tableF (ws.drop k) o)
set_option maxRecDepth 100000 in
set_option maxHeartbeats 4000000 in
theorem pdecl_any {w : World} {p b c : Nat} {ws : List Wo} {k : Nat} {o : Option Nat} (hT : KT w) (hg : 1 ≠ p) (hC : TC ws) (h : Ps w p b c ws k o) :
    Calls Tryd.prog 17 #[.pointer (some ⟨p, 0, none⟩)] w fun e w' => Rp w w' p b c ws k e (declF (ws.drop k) o) := by
  have rp := h.pl
  have rb := h.bl
  have HB := hid (B6.new w 26 (.string ⟨#[]⟩) (.string ⟨#[]⟩) (.int .i64 0) (.int .i64 0) (.int .i64 0) (.slice none 0 0))
  have HS0 : Hid (Below w.heap.size w (w.alloc (.cells #[.string ⟨#[]⟩, .string ⟨#[]⟩, .int .i64 0, .int .i64 0, .int .i64 0, .slice none 0 0] 26))) := (Below.refl _ _).alloc (Nat.le_refl _) _
  have HP := hid (h.next HS0.out)
  have HG := hid ((Gr.refl w p).below HS0.out)
  have WS := hid (show w.heap.size < (w.alloc (.cells #[.string ⟨#[]⟩, .string ⟨#[]⟩, .int .i64 0, .int .i64 0, .int .i64 0, .slice none 0 0] 26)).heap.size from by simp)
  have HT := hid (hT.next HS0.out)
  have ln := h.len
  have CH := hid hC
  obtain ⟨x, cu⟩ := h.cur
  have XA := hid cu.at_
  obtain ⟨R, hR⟩ : ∃ R, declF (ws.drop k) o = R := ⟨_, rfl⟩
  have TX := hid (show tw (ws.drop k) = x.t from by rw [cu.dr]; rfl)
  have RX := hid (show R = if eqB x.t ⟨#[105, 110, 112, 117, 116]⟩ = true then formF (recU (ws.drop k).length).2 0 [⟨#[105, 110, 112, 117, 116]⟩, ⟨#[78, 65, 77, 69]⟩, ⟨#[75, 73, 78, 68]⟩, ⟨#[59]⟩] (op0 ⟨#[105, 110, 112, 117, 116]⟩ (aw (ws.drop k))) (ws.drop k) o
    else if eqB x.t ⟨#[114, 117, 108, 101]⟩ = true then formF (recU (ws.drop k).length).2 0 [⟨#[114, 117, 108, 101]⟩, ⟨#[78, 65, 77, 69]⟩, ⟨#[75, 73, 78, 68]⟩, ⟨#[61]⟩, ⟨#[69, 88, 80, 82]⟩, ⟨#[59]⟩] (op0 ⟨#[114, 117, 108, 101]⟩ (aw (ws.drop k))) (ws.drop k) o
    else if eqB x.t ⟨#[116, 97, 98, 108, 101]⟩ = true then tableF (ws.drop k) o else ⟨none, ws.drop k, o⟩ from by rw [← hR, ← TX.out]; rfl)
  rw [hR]
  have l1 : (k : Int) < (ws.length : Int) := by have := h.lt; omega
  have c0 := HP.out.c0
  have c1 := HP.out.c1
  have d1 := HP.out.w1 _ _ XA.out
  clear h hT hR cu
  obtain ⟨xk, xt, xn, xa⟩ := x
  simp only at RX XA d1 TX
  go_enter Tryd.func17, Tryd.ntmps17
  go_upto_region 1 with fail
  generalize World.alloc w _ = w1 at *
  go_quiet (fail)
  have BQ := hid (drewN_below w1 nq)
  replace HP := hid (HP.out.next BQ.out)
  replace HG := hid (HG.out.below BQ.out)
  replace HB := hid (HB.out.next BQ.out)
  replace WS := hid (Nat.lt_of_lt_of_le WS.out BQ.out.size)
  replace HT := hid (HT.out.next BQ.out)
  clear c0 c1 d1 BQ
  generalize w1.drewN nq = w2 at *
  cases einput : eqB xt ⟨#[105, 110, 112, 117, 116]⟩
  · cases erule : eqB xt ⟨#[114, 117, 108, 101]⟩
    · cases etable : eqB xt ⟨#[116, 97, 98, 108, 101]⟩
      · have uinput : (xt.toList == [105, 110, 112, 117, 116]) = false := (eqL xt [105, 110, 112, 117, 116]).trans einput
        have urule : (xt.toList == [114, 117, 108, 101]) = false := (eqL xt [114, 117, 108, 101]).trans erule
        have utable : (xt.toList == [116, 97, 98, 108, 101]) = false := (eqL xt [116, 97, 98, 108, 101]).trans etable
        have LR := hid (show R = ⟨none, ws.drop k, o⟩ from by rw [RX.out, if_neg (by rw [einput]; decide), if_neg (by rw [erule]; decide), if_neg (by rw [etable]; decide)])
        go_upto_region 8 with fail
        obtain ⟨r0, r1, r2, r3, r4, r5, rz⟩ := HB.out
        have BF := hid (B6.sets HB.out (.string ⟨#[]⟩) (.string ⟨#[]⟩) (.int .i64 0) (.int .i64 0) (.int .i64 0) (.slice none 0 0))
        have PF := hid (Ps.put6 HP.out (q := w.heap.size) (by omega) (by omega) (.string ⟨#[]⟩) (.string ⟨#[]⟩) (.int .i64 0) (.int .i64 0) (.int .i64 0) (.slice none 0 0))
        have GF := hid (Gr.put6 HG.out (q := w.heap.size) (by omega) (.string ⟨#[]⟩) (.string ⟨#[]⟩) (.int .i64 0) (.int .i64 0) (.int .i64 0) (.slice none 0 0))
        go_wp2_with fail
        generalize World.setCell _ ⟨w.heap.size, 5, none⟩ _ = w9 at *
        obtain ⟨f0, f1, f2, f3, f4, f5, _⟩ := BF.out
        exact bodyPost_ret (v := .tuple #[.agg #[.string ⟨#[]⟩, .string ⟨#[]⟩, .int .i64 0, .int .i64 0, .int .i64 0, .slice none 0 0], .bool false]) (by simp [results, Tryd.results17, go_sem, f0, f1, f2, f3, f4, f5]) rfl (Rp.no (Nat.le_refl k) LR.out GF.out PF.out (Nv.leaf ⟨#[]⟩ ⟨#[]⟩ 0 0 0))
      · have uinput : (xt.toList == [105, 110, 112, 117, 116]) = false := (eqL xt [105, 110, 112, 117, 116]).trans einput
        have urule : (xt.toList == [114, 117, 108, 101]) = false := (eqL xt [114, 117, 108, 101]).trans erule
        have utable : (xt.toList == [116, 97, 98, 108, 101]) = true := (eqL xt [116, 97, 98, 108, 101]).trans etable
        have RX' := hid (show R = tableF (ws.drop k) o from by rw [RX.out, if_neg (by rw [einput]; decide), if_neg (by rw [erule]; decide), if_pos etable])
        have RX'' := RX'.out
        subst RX''
        have HC := hid (CH.out _ _ _ _ _ _ (by rw [TX.out]; exact etable) hg HP.out HT.out)
        go_upto_region 7 with fail
        go_wp2_with (go_at_call 31; with_reducible refine Calls.mono (HC.out) ?_; rintro e w5 h5; obtain ⟨g5, k', t, sa, sm, sc, ok, hk, hk2, hl, p5, rfl, hok, nv, ht⟩ := h5.parts; have HK2 := hid hk2; clear hk2; have HR5 := hid (HB.out.gr g5 (by omega)); have HP5 := hid p5; have HG5 := hid (HG.out.trans g5); have HN5 := hid nv; have HT5 := hid ht; have HL5 := hid hl; have HO5 := hid hok; clear h5 g5 p5 nv ht hl hok; obtain ⟨r0, r1, r2, r3, r4, r5, rz⟩ := HR5.out; have BF := hid (HR5.out.sets (.string t.op) (.string t.name) (.int .i64 (t.kind : Nat)) (.int .i64 t.n) (.int .i64 (t.pl : Nat)) (.slice sa sm sc)); have PF := hid (HP5.out.put6 (q := w.heap.size) (by omega) (by omega) (.string t.op) (.string t.name) (.int .i64 (t.kind : Nat)) (.int .i64 t.n) (.int .i64 (t.pl : Nat)) (.slice sa sm sc)); have GF := hid (HG5.out.put6 (q := w.heap.size) (by omega) (.string t.op) (.string t.name) (.int .i64 (t.kind : Nat)) (.int .i64 t.n) (.int .i64 (t.pl : Nat)) (.slice sa sm sc)); have NF := hid (HN5.out.put6w (q := w.heap.size) (m := w.heap.size) (by have := WS.out; omega) (.string t.op) (.string t.name) (.int .i64 (t.kind : Nat)) (.int .i64 t.n) (.int .i64 (t.pl : Nat)) (.slice sa sm sc)))
        generalize World.setCell _ ⟨w.heap.size, 5, none⟩ _ = w6 at *
        obtain ⟨f0, f1, f2, f3, f4, f5, _⟩ := BF.out
        exact bodyPost_ret (v := .tuple #[.agg #[.string t.op, .string t.name, .int .i64 (t.kind : Nat), .int .i64 t.n, .int .i64 (t.pl : Nat), .slice sa sm sc], .bool ok]) (by simp [results, Tryd.results17, go_sem, f0, f1, f2, f3, f4, f5]) rfl (⟨GF.out, k', _, hk, fun e => HK2.out (by rw [← HO5.out]; exact e), HL5.out, PF.out, congrArg (fun x => Ending.returned (.tuple #[.agg #[.string t.op, .string t.name, .int .i64 (t.kind : Nat), .int .i64 t.n, .int .i64 (t.pl : Nat), .slice sa sm sc], .bool x])) HO5.out.symm, t, ⟨_, rfl, NF.out⟩, HT5.out⟩)
    · have uinput : (xt.toList == [105, 110, 112, 117, 116]) = false := (eqL xt [105, 110, 112, 117, 116]).trans einput
      have urule : (xt.toList == [114, 117, 108, 101]) = true := (eqL xt [114, 117, 108, 101]).trans erule
      have RX' := hid (show R = formF (recU (ws.drop k).length).2 0 [⟨#[114, 117, 108, 101]⟩, ⟨#[78, 65, 77, 69]⟩, ⟨#[75, 73, 78, 68]⟩, ⟨#[61]⟩, ⟨#[69, 88, 80, 82]⟩, ⟨#[59]⟩] (op0 ⟨#[114, 117, 108, 101]⟩ (aw (ws.drop k))) (ws.drop k) o from by rw [RX.out, if_neg (by rw [einput]; decide), if_pos erule])
      have RX'' := RX'.out
      subst RX''
      go_upto_region 5 with fail
      have HS2 := hid (show Below w2.heap.size w2 (w2.alloc (.cells #[.string ⟨#[114, 117, 108, 101]⟩, .string ⟨#[78, 65, 77, 69]⟩, .string ⟨#[75, 73, 78, 68]⟩, .string ⟨#[61]⟩, .string ⟨#[69, 88, 80, 82]⟩, .string ⟨#[59]⟩] 9)) from (Below.refl _ _).alloc (Nat.le_refl _) _)
      have HC := hid (show Calls Tryd.prog 30 #[.pointer (some ⟨p, 0, none⟩), .string ⟨#[114, 117, 108, 101]⟩, .int .i64 0, .slice (some ⟨w2.heap.size, 0, none⟩) 6 6] (w2.alloc (.cells #[.string ⟨#[114, 117, 108, 101]⟩, .string ⟨#[78, 65, 77, 69]⟩, .string ⟨#[75, 73, 78, 68]⟩, .string ⟨#[61]⟩, .string ⟨#[69, 88, 80, 82]⟩, .string ⟨#[59]⟩] 9)) (fun e w' => Rp (w2.alloc (.cells #[.string ⟨#[114, 117, 108, 101]⟩, .string ⟨#[78, 65, 77, 69]⟩, .string ⟨#[75, 73, 78, 68]⟩, .string ⟨#[61]⟩, .string ⟨#[69, 88, 80, 82]⟩, .string ⟨#[59]⟩] 9)) w' p b c ws k e (formF (recU (ws.drop k).length).2 0 [⟨#[114, 117, 108, 101]⟩, ⟨#[78, 65, 77, 69]⟩, ⟨#[75, 73, 78, 68]⟩, ⟨#[61]⟩, ⟨#[69, 88, 80, 82]⟩, ⟨#[59]⟩] (op0 ⟨#[114, 117, 108, 101]⟩ (aw (ws.drop k))) (ws.drop k) o)) from pform_any ⟨#[114, 117, 108, 101]⟩ 0 [⟨#[114, 117, 108, 101]⟩, ⟨#[78, 65, 77, 69]⟩, ⟨#[75, 73, 78, 68]⟩, ⟨#[61]⟩, ⟨#[69, 88, 80, 82]⟩, ⟨#[59]⟩] w2.heap.size (recs hg (ws.drop k).length).2 (HT.out.next HS2.out) (by rw [List.length_drop]; exact Nat.le_refl _) (by omega) (pa_new w2 [⟨#[114, 117, 108, 101]⟩, ⟨#[78, 65, 77, 69]⟩, ⟨#[75, 73, 78, 68]⟩, ⟨#[61]⟩, ⟨#[69, 88, 80, 82]⟩, ⟨#[59]⟩]) (by have := HP.out.pl; omega) (by decide) ⟨_, rfl, by decide⟩ hg (ne_all (by decide)) (HP.out.next HS2.out))
      have HB2 := hid (HB.out.next HS2.out)
      have HG2 := hid (HG.out.below HS2.out)
      have WS2 := hid (Nat.lt_of_lt_of_le WS.out HS2.out.size)
      go_wp2_with (go_at_call 30; with_reducible refine Calls.mono (HC.out) ?_; rintro e w5 h5; obtain ⟨g5, k', t, sa, sm, sc, ok, hk, hk2, hl, p5, rfl, hok, nv, ht⟩ := h5.parts; have HK2 := hid hk2; clear hk2; have HR5 := hid (HB2.out.gr g5 (by omega)); have HP5 := hid p5; have HG5 := hid (HG2.out.trans g5); have HN5 := hid nv; have HT5 := hid ht; have HL5 := hid hl; have HO5 := hid hok; clear h5 g5 p5 nv ht hl hok; obtain ⟨r0, r1, r2, r3, r4, r5, rz⟩ := HR5.out; have BF := hid (HR5.out.sets (.string t.op) (.string t.name) (.int .i64 (t.kind : Nat)) (.int .i64 t.n) (.int .i64 (t.pl : Nat)) (.slice sa sm sc)); have PF := hid (HP5.out.put6 (q := w.heap.size) (by omega) (by omega) (.string t.op) (.string t.name) (.int .i64 (t.kind : Nat)) (.int .i64 t.n) (.int .i64 (t.pl : Nat)) (.slice sa sm sc)); have GF := hid (HG5.out.put6 (q := w.heap.size) (by omega) (.string t.op) (.string t.name) (.int .i64 (t.kind : Nat)) (.int .i64 t.n) (.int .i64 (t.pl : Nat)) (.slice sa sm sc)); have NF := hid (HN5.out.put6w (q := w.heap.size) (m := w.heap.size) (by have := WS2.out; omega) (.string t.op) (.string t.name) (.int .i64 (t.kind : Nat)) (.int .i64 t.n) (.int .i64 (t.pl : Nat)) (.slice sa sm sc)))
      generalize World.setCell _ ⟨w.heap.size, 5, none⟩ _ = w6 at *
      obtain ⟨f0, f1, f2, f3, f4, f5, _⟩ := BF.out
      exact bodyPost_ret (v := .tuple #[.agg #[.string t.op, .string t.name, .int .i64 (t.kind : Nat), .int .i64 t.n, .int .i64 (t.pl : Nat), .slice sa sm sc], .bool ok]) (by simp [results, Tryd.results17, go_sem, f0, f1, f2, f3, f4, f5]) rfl (⟨GF.out, k', _, hk, fun e => HK2.out (by rw [← HO5.out]; exact e), HL5.out, PF.out, congrArg (fun x => Ending.returned (.tuple #[.agg #[.string t.op, .string t.name, .int .i64 (t.kind : Nat), .int .i64 t.n, .int .i64 (t.pl : Nat), .slice sa sm sc], .bool x])) HO5.out.symm, t, ⟨_, rfl, NF.out⟩, HT5.out⟩)
  · have uinput : (xt.toList == [105, 110, 112, 117, 116]) = true := (eqL xt [105, 110, 112, 117, 116]).trans einput
    have RX' := hid (show R = formF (recU (ws.drop k).length).2 0 [⟨#[105, 110, 112, 117, 116]⟩, ⟨#[78, 65, 77, 69]⟩, ⟨#[75, 73, 78, 68]⟩, ⟨#[59]⟩] (op0 ⟨#[105, 110, 112, 117, 116]⟩ (aw (ws.drop k))) (ws.drop k) o from by rw [RX.out, if_pos einput])
    have RX'' := RX'.out
    subst RX''
    go_upto_region 3 with fail
    have HS2 := hid (show Below w2.heap.size w2 (w2.alloc (.cells #[.string ⟨#[105, 110, 112, 117, 116]⟩, .string ⟨#[78, 65, 77, 69]⟩, .string ⟨#[75, 73, 78, 68]⟩, .string ⟨#[59]⟩] 9)) from (Below.refl _ _).alloc (Nat.le_refl _) _)
    have HC := hid (show Calls Tryd.prog 30 #[.pointer (some ⟨p, 0, none⟩), .string ⟨#[105, 110, 112, 117, 116]⟩, .int .i64 0, .slice (some ⟨w2.heap.size, 0, none⟩) 4 4] (w2.alloc (.cells #[.string ⟨#[105, 110, 112, 117, 116]⟩, .string ⟨#[78, 65, 77, 69]⟩, .string ⟨#[75, 73, 78, 68]⟩, .string ⟨#[59]⟩] 9)) (fun e w' => Rp (w2.alloc (.cells #[.string ⟨#[105, 110, 112, 117, 116]⟩, .string ⟨#[78, 65, 77, 69]⟩, .string ⟨#[75, 73, 78, 68]⟩, .string ⟨#[59]⟩] 9)) w' p b c ws k e (formF (recU (ws.drop k).length).2 0 [⟨#[105, 110, 112, 117, 116]⟩, ⟨#[78, 65, 77, 69]⟩, ⟨#[75, 73, 78, 68]⟩, ⟨#[59]⟩] (op0 ⟨#[105, 110, 112, 117, 116]⟩ (aw (ws.drop k))) (ws.drop k) o)) from pform_any ⟨#[105, 110, 112, 117, 116]⟩ 0 [⟨#[105, 110, 112, 117, 116]⟩, ⟨#[78, 65, 77, 69]⟩, ⟨#[75, 73, 78, 68]⟩, ⟨#[59]⟩] w2.heap.size (recs hg (ws.drop k).length).2 (HT.out.next HS2.out) (by rw [List.length_drop]; exact Nat.le_refl _) (by omega) (pa_new w2 [⟨#[105, 110, 112, 117, 116]⟩, ⟨#[78, 65, 77, 69]⟩, ⟨#[75, 73, 78, 68]⟩, ⟨#[59]⟩]) (by have := HP.out.pl; omega) (by decide) ⟨_, rfl, by decide⟩ hg (ne_all (by decide)) (HP.out.next HS2.out))
    have HB2 := hid (HB.out.next HS2.out)
    have HG2 := hid (HG.out.below HS2.out)
    have WS2 := hid (Nat.lt_of_lt_of_le WS.out HS2.out.size)
    go_wp2_with (go_at_call 30; with_reducible refine Calls.mono (HC.out) ?_; rintro e w5 h5; obtain ⟨g5, k', t, sa, sm, sc, ok, hk, hk2, hl, p5, rfl, hok, nv, ht⟩ := h5.parts; have HK2 := hid hk2; clear hk2; have HR5 := hid (HB2.out.gr g5 (by omega)); have HP5 := hid p5; have HG5 := hid (HG2.out.trans g5); have HN5 := hid nv; have HT5 := hid ht; have HL5 := hid hl; have HO5 := hid hok; clear h5 g5 p5 nv ht hl hok; obtain ⟨r0, r1, r2, r3, r4, r5, rz⟩ := HR5.out; have BF := hid (HR5.out.sets (.string t.op) (.string t.name) (.int .i64 (t.kind : Nat)) (.int .i64 t.n) (.int .i64 (t.pl : Nat)) (.slice sa sm sc)); have PF := hid (HP5.out.put6 (q := w.heap.size) (by omega) (by omega) (.string t.op) (.string t.name) (.int .i64 (t.kind : Nat)) (.int .i64 t.n) (.int .i64 (t.pl : Nat)) (.slice sa sm sc)); have GF := hid (HG5.out.put6 (q := w.heap.size) (by omega) (.string t.op) (.string t.name) (.int .i64 (t.kind : Nat)) (.int .i64 t.n) (.int .i64 (t.pl : Nat)) (.slice sa sm sc)); have NF := hid (HN5.out.put6w (q := w.heap.size) (m := w.heap.size) (by have := WS2.out; omega) (.string t.op) (.string t.name) (.int .i64 (t.kind : Nat)) (.int .i64 t.n) (.int .i64 (t.pl : Nat)) (.slice sa sm sc)))
    generalize World.setCell _ ⟨w.heap.size, 5, none⟩ _ = w6 at *
    obtain ⟨f0, f1, f2, f3, f4, f5, _⟩ := BF.out
    exact bodyPost_ret (v := .tuple #[.agg #[.string t.op, .string t.name, .int .i64 (t.kind : Nat), .int .i64 t.n, .int .i64 (t.pl : Nat), .slice sa sm sc], .bool ok]) (by simp [results, Tryd.results17, go_sem, f0, f1, f2, f3, f4, f5]) rfl (⟨GF.out, k', _, hk, fun e => HK2.out (by rw [← HO5.out]; exact e), HL5.out, PF.out, congrArg (fun x => Ending.returned (.tuple #[.agg #[.string t.op, .string t.name, .int .i64 (t.kind : Nat), .int .i64 t.n, .int .i64 (t.pl : Nat), .slice sa sm sc], .bool x])) HO5.out.symm, t, ⟨_, rfl, NF.out⟩, HT5.out⟩)

end Go.Proofs.YtobolipjgkabhaaDoor
