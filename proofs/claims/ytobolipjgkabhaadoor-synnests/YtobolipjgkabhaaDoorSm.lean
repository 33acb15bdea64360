/- All of the parser's expressions. -/
import Derived.Test.YtobolipjgkabhaaDoorSi
import Derived.Test.YtobolipjgkabhaaDoorSj
import Derived.Test.YtobolipjgkabhaaDoorSk
import Derived.Test.YtobolipjgkabhaaDoorSl
import Derived.BigQuiet
import Derived.Deep.RegionHeld3
namespace Go.Proofs.YtobolipjgkabhaaDoor
open Go.RowKit
set_option linter.unusedVariables false
set_option linter.unusedSimpArgs false

set_option maxRecDepth 100000 in
set_option maxHeartbeats 2000000 in
theorem pbin_top {w : World} {p b c : Nat} {ws : List Wo} {k : Nat} {o : Option Nat} (deep : Nat) (R : Rs) (hT : KT w)
    (hB : ∀ (w : World), Ps w p b c ws k o → KT w → Calls Tryd.prog 78 #[.pointer (some ⟨p, 0, none⟩), .int .i64 (deep : Nat)] w fun e w' => Rp w w' p b c ws k e R) (h : Ps w p b c ws k o) :
    Calls Tryd.prog 67 #[.pointer (some ⟨p, 0, none⟩), .int .i64 5, .int .i64 (deep : Nat)] w fun e w' => Rp w w' p b c ws k e R := by
  have rp := h.pl
  have rb := h.bl
  have HB := hid (B6.new w 26 (.string ⟨#[]⟩) (.string ⟨#[]⟩) (.int .i64 0) (.int .i64 0) (.int .i64 0) (.slice none 0 0))
  have HS0 : Hid (Below w.heap.size w (w.alloc (.cells #[.string ⟨#[]⟩, .string ⟨#[]⟩, .int .i64 0, .int .i64 0, .int .i64 0, .slice none 0 0] 26))) := (Below.refl _ _).alloc (Nat.le_refl _) _
  have HP := hid (h.next HS0.out)
  have HG := hid ((Gr.refl w p).below HS0.out)
  have WS := hid (show w.heap.size < (w.alloc (.cells #[.string ⟨#[]⟩, .string ⟨#[]⟩, .int .i64 0, .int .i64 0, .int .i64 0, .slice none 0 0] 26)).heap.size from by simp)
  have HT := hid (hT.next HS0.out)
  have HC := hid (hB _ HP.out HT.out)
  clear h hT hB
  go_enter Tryd.func67, Tryd.ntmps67
  go_upto_region 2 with fail
  generalize World.alloc w _ = w1 at *
  go_wp2_with (go_at_call 78; with_reducible refine Calls.mono (HC.out) ?_; rintro e w5 h5; obtain ⟨g5, k', t, sa, sm, sc, ok, hk, hk2, hl, p5, rfl, hok, nv, ht⟩ := h5.parts; have HK2 := hid hk2; clear hk2; have HR5 := hid (HB.out.gr g5 (by omega)); have HP5 := hid p5; have HG5 := hid (HG.out.trans g5); have HN5 := hid nv; have HT5 := hid ht; have HL5 := hid hl; have HO5 := hid hok; clear h5 g5 p5 nv ht hl hok; obtain ⟨r0, r1, r2, r3, r4, r5, rz⟩ := HR5.out; have BF := hid (HR5.out.sets (.string t.op) (.string t.name) (.int .i64 (t.kind : Nat)) (.int .i64 t.n) (.int .i64 (t.pl : Nat)) (.slice sa sm sc)); have PF := hid (HP5.out.put6 (q := w.heap.size) (by omega) (by omega) (.string t.op) (.string t.name) (.int .i64 (t.kind : Nat)) (.int .i64 t.n) (.int .i64 (t.pl : Nat)) (.slice sa sm sc)); have GF := hid (HG5.out.put6 (q := w.heap.size) (by omega) (.string t.op) (.string t.name) (.int .i64 (t.kind : Nat)) (.int .i64 t.n) (.int .i64 (t.pl : Nat)) (.slice sa sm sc)); have NF := hid (HN5.out.put6w (q := w.heap.size) (m := w.heap.size) (by have := WS.out; omega) (.string t.op) (.string t.name) (.int .i64 (t.kind : Nat)) (.int .i64 t.n) (.int .i64 (t.pl : Nat)) (.slice sa sm sc)))
  generalize World.setCell _ ⟨w.heap.size, 5, none⟩ _ = w6 at *
  obtain ⟨f0, f1, f2, f3, f4, f5, _⟩ := BF.out
  exact bodyPost_ret (v := .tuple #[.agg #[.string t.op, .string t.name, .int .i64 (t.kind : Nat), .int .i64 t.n, .int .i64 (t.pl : Nat), .slice sa sm sc], .bool ok]) (by simp [results, Tryd.results67, go_sem, f0, f1, f2, f3, f4, f5]) rfl (⟨GF.out, k', _, hk, fun e => HK2.out (by rw [← HO5.out]; exact e), HL5.out, PF.out, congrArg (fun x => Ending.returned (.tuple #[.agg #[.string t.op, .string t.name, .int .i64 (t.kind : Nat), .int .i64 t.n, .int .i64 (t.pl : Nat), .slice sa sm sc], .bool x])) HO5.out.symm, t, ⟨_, rfl, NF.out⟩, HT5.out⟩)

theorem binF_succ (U : List Wo → Option Nat → Rs) (m : Nat) (l : List Wo) (o : Option Nat) : binF U (m + 1) l o = binG (binF U m) (4 - m) l o := by
  unfold binG binR
  simp only [binF]
  generalize binF U m l o = r
  obtain ⟨t, l', o'⟩ := r
  cases t <;> rfl
theorem pbin_all {p b c : Nat} {ws : List Wo} (deep k0 : Nat) (V : List Wo → Option Nat → Rs) (hd : deep ≤ 10000) (hg : 1 ≠ p)
    (hV : ∀ (w : World) (k : Nat) (o : Option Nat), k0 ≤ k → Ps w p b c ws k o → KT w → Calls Tryd.prog 78 #[.pointer (some ⟨p, 0, none⟩), .int .i64 (deep : Nat)] w fun e w' => Rp w w' p b c ws k e (V (ws.drop k) o)) :
    ∀ (m : Nat), m ≤ 5 → ∀ (w : World) (k : Nat) (o : Option Nat), k0 ≤ k → Ps w p b c ws k o → KT w → Calls Tryd.prog 67 #[.pointer (some ⟨p, 0, none⟩), .int .i64 ((5 - m : Nat) : Int), .int .i64 (deep : Nat)] w fun e w' => Rp w w' p b c ws k e (binF V m (ws.drop k) o)
  | 0, _, w, k, o, hk, h, hT => pbin_top deep _ hT (fun w h hT => hV w k o hk h hT) h
  | m + 1, hm, w, k, o, hk, h, hT => by
    rw [binF_succ, show 5 - (m + 1) = 4 - m by omega]
    refine pbin_step (4 - m) deep (binF V m) (by omega) hd hT hg (fun w k' o hk' h hT => ?_) h
    have := pbin_all deep k0 V hd hg hV m (by omega) w k' o (by omega) h hT
    rw [show ((5 - m : Nat) : Int) = ((4 - m : Nat) : Int) + 1 by omega] at this
    exact this
theorem recs {p b c : Nat} {ws : List Wo} (hg : 1 ≠ p) : ∀ f, UC (recU f).1 f p b c ws ∧ EC (recU f).2 f p b c ws
  | 0 => ⟨fun w k deep o h hT hN hD => absurd hN (Nat.not_lt_zero _), fun w k deep o h hT hN hD => absurd hN (Nat.not_lt_zero _)⟩
  | f + 1 => by
    obtain ⟨hU, hE⟩ := recs hg f
    have un : ∀ (w : World) (k deep : Nat) (o : Option Nat), Ps w p b c ws k o → KT w → ws.length - k ≤ f → deep + (ws.length - k) ≤ 10000 → Calls Tryd.prog 78 #[.pointer (some ⟨p, 0, none⟩), .int .i64 (deep : Nat)] w fun e w' => Rp w w' p b c ws k e (unF (recU f).1 (recU f).2 deep (ws.drop k) o) :=
      fun w k deep o h hT hN hD => punary_any deep hU hT hN hD hg (fun w h hT => pprim_any deep hE hT hN hD hg h) h
    refine ⟨fun w k deep o h hT hN hD => un w k deep o h hT (by omega) hD, fun w k deep o h hT hN hD => ?_⟩
    refine pexpr_any deep hE hT (by omega) hD hg (fun w o h hT => ?_) h
    exact pbin_all deep k _ (by omega) hg (fun w k' o hk h hT => un w k' deep o h hT (by omega) (by omega)) 5 (Nat.le_refl _) w k o (Nat.le_refl _) h hT
end Go.Proofs.YtobolipjgkabhaaDoor
