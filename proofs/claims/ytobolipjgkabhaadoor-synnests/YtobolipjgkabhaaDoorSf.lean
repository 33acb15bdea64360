/- The walk over the parser's kid. -/
import Derived.Test.YtobolipjgkabhaaDoorSd
import Derived.Test.YtobolipjgkabhaaDoorSe
import Derived.BigQuiet
import Derived.Deep.RegionHeld3
namespace Go.Proofs.YtobolipjgkabhaaDoor
open Go.RowKit
set_option linter.unusedVariables false
set_option linter.unusedSimpArgs false

/-- What a call of expr answers, for words fewer than N. -/
def EC (E : Ex) (N p b c : Nat) (ws : List Wo) : Prop := ∀ (w : World) (k deep : Nat) (o : Option Nat), Ps w p b c ws k o → KT w → ws.length - k < N → deep + (ws.length - k) ≤ 10000 → Calls Tryd.prog 61 #[.pointer (some ⟨p, 0, none⟩), .int .i64 (deep : Nat)] w fun e w' => Rp w w' p b c ws k e (E deep (ws.drop k) o)
theorem Nd.sl {w : World} {S : Nat → Prop} {v : Value} {ts : List Tr} (h : Nd w S v ts) : ∃ a m c, v = .slice a m c := by
  cases h
  · exact ⟨_, _, _, rfl⟩
  · exact ⟨_, _, _, rfl⟩
theorem Rp.parts {w w' : World} {p b c : Nat} {ws : List Wo} {k : Nat} {e : Ending} {r : Rs} (h : Rp w w' p b c ws k e r) : Gr w w' p ∧ ∃ (k' : Nat) (t : Tr) (sa : Option Addr) (sm sc : Nat) (ok : Bool), k ≤ k' ∧ (ok = true → k < k') ∧ r.l = ws.drop k' ∧ Ps w' p b c ws k' r.o ∧ e = .returned (.tuple #[.agg #[.string t.op, .string t.name, .int .i64 (t.kind : Nat), .int .i64 t.n, .int .i64 (t.pl : Nat), .slice sa sm sc], .bool ok]) ∧ r.t.isSome = ok ∧ Nd w' (fun g => w.heap.size ≤ g) (.slice sa sm sc) t.kids ∧ ∀ t', r.t = some t' → t = t' := by
  obtain ⟨hg, k', v, hk, hk2, hl, hp, he, t, ⟨sl, hv, hn⟩, ht⟩ := h
  subst hv
  obtain ⟨sa, sm, sc, rfl⟩ := hn.sl
  exact ⟨hg, k', t, sa, sm, sc, _, hk, hk2, hl, hp, he, rfl, hn, ht⟩
theorem Nd.put6w {w : World} {v : Value} {ts : List Tr} {n m : Nat} (h : Nd w (fun g => n ≤ g) v ts) {q : Nat} (hq : q < n ∧ m ≤ n) (v0 v1 v2 v3 v4 v5 : Value) : Nd ((((((w.setCell ⟨q, 0, none⟩ v0).setCell ⟨q, 1, none⟩ v1).setCell ⟨q, 2, none⟩ v2).setCell ⟨q, 3, none⟩ v3).setCell ⟨q, 4, none⟩ v4).setCell ⟨q, 5, none⟩ v5) (fun g => m ≤ g) v ts :=
  (h.put6 (q := q) (by omega) v0 v1 v2 v3 v4 v5).keep fun g s l => ⟨Nat.le_trans hq.2 s, rfl⟩
set_option maxRecDepth 100000 in
set_option maxHeartbeats 2000000 in
theorem kid_lit {w : World} {p b c : Nat} {ws : List Wo} {k : Nat} {o : Option Nat} (deep : Int)  (h : Ps w p b c ws k o) :
    Calls Tryd.prog 46 #[.pointer (some ⟨p, 0, none⟩), .string ⟨#[76, 73, 84]⟩, .int .i64 deep] w fun e w' => Rp w w' p b c ws k e (litR (ws.drop k) o) := by
  have lp := h.pl
  have lb := h.bl
  have HB := hid (B6.new w 26 (.string ⟨#[]⟩) (.string ⟨#[]⟩) (.int .i64 0) (.int .i64 0) (.int .i64 0) (.slice none 0 0))
  have HS0 : Hid (Below w.heap.size w (w.alloc (.cells #[.string ⟨#[]⟩, .string ⟨#[]⟩, .int .i64 0, .int .i64 0, .int .i64 0, .slice none 0 0] 26))) := (Below.refl _ _).alloc (Nat.le_refl _) _
  have HP := hid (h.next HS0.out)
  have HG := hid ((Gr.refl w p).below HS0.out)
  have hK := plit_any HP.out
  have HC := hid hK
  have WS := hid (show w.heap.size < (w.alloc (.cells #[.string ⟨#[]⟩, .string ⟨#[]⟩, .int .i64 0, .int .i64 0, .int .i64 0, .slice none 0 0] 26)).heap.size from by simp)
  clear h hK
  go_enter Tryd.func46, Tryd.ntmps46
  go_upto_region 2 with fail
  generalize World.alloc w _ = w1 at *
  go_wp2_with (go_at_call 60; with_reducible refine Calls.mono (HC.out) ?_; rintro e w5 h5; obtain ⟨g5, k', t, sa, sm, sc, ok, hk, hk2, hl, p5, rfl, hok, nv, ht⟩ := h5.parts; have HK2 := hid hk2; clear hk2; have HR5 := hid (HB.out.gr g5 (by omega)); have HP5 := hid p5; have HG5 := hid (HG.out.trans g5); have HN5 := hid nv; have HT5 := hid ht; have HL5 := hid hl; have HO5 := hid hok; clear h5 g5 p5 nv ht hl hok; obtain ⟨r0, r1, r2, r3, r4, r5, rz⟩ := HR5.out; have BF := hid (HR5.out.sets (.string t.op) (.string t.name) (.int .i64 (t.kind : Nat)) (.int .i64 t.n) (.int .i64 (t.pl : Nat)) (.slice sa sm sc)); have PF := hid (HP5.out.put6 (q := w.heap.size) (by omega) (by omega) (.string t.op) (.string t.name) (.int .i64 (t.kind : Nat)) (.int .i64 t.n) (.int .i64 (t.pl : Nat)) (.slice sa sm sc)); have GF := hid (HG5.out.put6 (q := w.heap.size) (by omega) (.string t.op) (.string t.name) (.int .i64 (t.kind : Nat)) (.int .i64 t.n) (.int .i64 (t.pl : Nat)) (.slice sa sm sc)); have NF := hid (HN5.out.put6w (q := w.heap.size) (m := w.heap.size) (by have := WS.out; omega) (.string t.op) (.string t.name) (.int .i64 (t.kind : Nat)) (.int .i64 t.n) (.int .i64 (t.pl : Nat)) (.slice sa sm sc)))
  generalize World.setCell _ ⟨w.heap.size, 5, none⟩ _ = w6 at *
  obtain ⟨f0, f1, f2, f3, f4, f5, _⟩ := BF.out
  exact bodyPost_ret (v := .tuple #[.agg #[.string t.op, .string t.name, .int .i64 (t.kind : Nat), .int .i64 t.n, .int .i64 (t.pl : Nat), .slice sa sm sc], .bool ok]) (by simp [results, Tryd.results46, go_sem, f0, f1, f2, f3, f4, f5]) rfl ⟨GF.out, k', _, hk, fun e => HK2.out (by rw [← HO5.out]; exact e), HL5.out, PF.out, by rw [HO5.out], t, ⟨_, rfl, NF.out⟩, HT5.out⟩
set_option maxRecDepth 100000 in
set_option maxHeartbeats 2000000 in
theorem kid_expr {w : World} {p b c : Nat} {ws : List Wo} {k : Nat} {o : Option Nat} (deep : Nat) {E : Ex} {N : Nat} (hE : EC E N p b c ws) (hT : KT w) (hN : ws.length - k < N) (hD : deep + (ws.length - k) ≤ 10000) (h : Ps w p b c ws k o) :
    Calls Tryd.prog 46 #[.pointer (some ⟨p, 0, none⟩), .string ⟨#[69, 88, 80, 82]⟩, .int .i64 (deep : Nat)] w fun e w' => Rp w w' p b c ws k e (E deep (ws.drop k) o) := by
  have lp := h.pl
  have lb := h.bl
  have HB := hid (B6.new w 26 (.string ⟨#[]⟩) (.string ⟨#[]⟩) (.int .i64 0) (.int .i64 0) (.int .i64 0) (.slice none 0 0))
  have HS0 : Hid (Below w.heap.size w (w.alloc (.cells #[.string ⟨#[]⟩, .string ⟨#[]⟩, .int .i64 0, .int .i64 0, .int .i64 0, .slice none 0 0] 26))) := (Below.refl _ _).alloc (Nat.le_refl _) _
  have HP := hid (h.next HS0.out)
  have HG := hid ((Gr.refl w p).below HS0.out)
  have hK := hE _ k deep _ HP.out (hT.next HS0.out) hN hD
  have HC := hid hK
  have WS := hid (show w.heap.size < (w.alloc (.cells #[.string ⟨#[]⟩, .string ⟨#[]⟩, .int .i64 0, .int .i64 0, .int .i64 0, .slice none 0 0] 26)).heap.size from by simp)
  clear h hK hE hT hN hD
  go_enter Tryd.func46, Tryd.ntmps46
  go_upto_region 3 with fail
  generalize World.alloc w _ = w1 at *
  go_wp2_with (go_at_call 61; with_reducible refine Calls.mono (HC.out) ?_; rintro e w5 h5; obtain ⟨g5, k', t, sa, sm, sc, ok, hk, hk2, hl, p5, rfl, hok, nv, ht⟩ := h5.parts; have HK2 := hid hk2; clear hk2; have HR5 := hid (HB.out.gr g5 (by omega)); have HP5 := hid p5; have HG5 := hid (HG.out.trans g5); have HN5 := hid nv; have HT5 := hid ht; have HL5 := hid hl; have HO5 := hid hok; clear h5 g5 p5 nv ht hl hok; obtain ⟨r0, r1, r2, r3, r4, r5, rz⟩ := HR5.out; have BF := hid (HR5.out.sets (.string t.op) (.string t.name) (.int .i64 (t.kind : Nat)) (.int .i64 t.n) (.int .i64 (t.pl : Nat)) (.slice sa sm sc)); have PF := hid (HP5.out.put6 (q := w.heap.size) (by omega) (by omega) (.string t.op) (.string t.name) (.int .i64 (t.kind : Nat)) (.int .i64 t.n) (.int .i64 (t.pl : Nat)) (.slice sa sm sc)); have GF := hid (HG5.out.put6 (q := w.heap.size) (by omega) (.string t.op) (.string t.name) (.int .i64 (t.kind : Nat)) (.int .i64 t.n) (.int .i64 (t.pl : Nat)) (.slice sa sm sc)); have NF := hid (HN5.out.put6w (q := w.heap.size) (m := w.heap.size) (by have := WS.out; omega) (.string t.op) (.string t.name) (.int .i64 (t.kind : Nat)) (.int .i64 t.n) (.int .i64 (t.pl : Nat)) (.slice sa sm sc)))
  generalize World.setCell _ ⟨w.heap.size, 5, none⟩ _ = w6 at *
  obtain ⟨f0, f1, f2, f3, f4, f5, _⟩ := BF.out
  exact bodyPost_ret (v := .tuple #[.agg #[.string t.op, .string t.name, .int .i64 (t.kind : Nat), .int .i64 t.n, .int .i64 (t.pl : Nat), .slice sa sm sc], .bool ok]) (by simp [results, Tryd.results46, go_sem, f0, f1, f2, f3, f4, f5]) rfl ⟨GF.out, k', _, hk, fun e => HK2.out (by rw [← HO5.out]; exact e), HL5.out, PF.out, by rw [HO5.out], t, ⟨_, rfl, NF.out⟩, HT5.out⟩
end Go.Proofs.YtobolipjgkabhaaDoor
