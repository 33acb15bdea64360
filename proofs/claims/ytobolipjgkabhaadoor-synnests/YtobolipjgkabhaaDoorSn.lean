/- The walks over the parser's row, table and decl. -/
import Derived.Test.YtobolipjgkabhaaDoorSm
import Derived.Deep.LoopGhost
import Derived.BigQuiet
import Derived.Deep.RegionHeld3
namespace Go.Proofs.YtobolipjgkabhaaDoor
open Go.RowKit
set_option linter.unusedVariables false
set_option linter.unusedSimpArgs false

set_option maxRecDepth 100000 in
set_option maxHeartbeats 2000000 in
theorem prow_any {w : World} {p b c : Nat} {ws : List Wo} {k : Nat} {o : Option Nat} (last : Bool) (hT : KT w) (hg : 1 ≠ p) (h : Ps w p b c ws k o) :
    Calls Tryd.prog 49 #[.pointer (some ⟨p, 0, none⟩), .bool last] w fun e w' => Rp w w' p b c ws k e (rowF last (ws.drop k) o) := by
  have rp := h.pl
  have rb := h.bl
  have HB := hid (B6.new w 26 (.string ⟨#[]⟩) (.string ⟨#[]⟩) (.int .i64 0) (.int .i64 0) (.int .i64 0) (.slice none 0 0))
  have HS0 : Hid (Below w.heap.size w (w.alloc (.cells #[.string ⟨#[]⟩, .string ⟨#[]⟩, .int .i64 0, .int .i64 0, .int .i64 0, .slice none 0 0] 26))) := (Below.refl _ _).alloc (Nat.le_refl _) _
  have HP := hid (h.next HS0.out)
  have HG := hid ((Gr.refl w p).below HS0.out)
  have WS := hid (show w.heap.size < (w.alloc (.cells #[.string ⟨#[]⟩, .string ⟨#[]⟩, .int .i64 0, .int .i64 0, .int .i64 0, .slice none 0 0] 26)).heap.size from by simp)
  have HT := hid (hT.next HS0.out)
  have ln := h.len
  clear h hT
  cases last with
  | false =>
    show Calls _ _ _ _ fun e w' => Rp w w' p b c ws k e (formF (recU (ws.drop k).length).2 0 [⟨#[76, 73, 84]⟩, ⟨#[58]⟩, ⟨#[76, 73, 84]⟩, ⟨#[44]⟩] (op0 ⟨#[114, 111, 119]⟩ (aw (ws.drop k))) (ws.drop k) o)
    go_enter Tryd.func49, Tryd.ntmps49
    go_upto_region 1 with fail
    generalize World.alloc w _ = w1 at *
    go_upto_region 3 with fail
    have HS2 := hid (show Below w1.heap.size w1 (w1.alloc (.cells #[.string ⟨#[76, 73, 84]⟩, .string ⟨#[58]⟩, .string ⟨#[76, 73, 84]⟩, .string ⟨#[44]⟩] 9)) from (Below.refl _ _).alloc (Nat.le_refl _) _)
    have HC := hid (show Calls Tryd.prog 30 #[.pointer (some ⟨p, 0, none⟩), .string ⟨#[114, 111, 119]⟩, .int .i64 0, .slice (some ⟨w1.heap.size, 0, none⟩) 4 4] (w1.alloc (.cells #[.string ⟨#[76, 73, 84]⟩, .string ⟨#[58]⟩, .string ⟨#[76, 73, 84]⟩, .string ⟨#[44]⟩] 9)) (fun e w' => Rp (w1.alloc (.cells #[.string ⟨#[76, 73, 84]⟩, .string ⟨#[58]⟩, .string ⟨#[76, 73, 84]⟩, .string ⟨#[44]⟩] 9)) w' p b c ws k e (formF (recU (ws.drop k).length).2 0 [⟨#[76, 73, 84]⟩, ⟨#[58]⟩, ⟨#[76, 73, 84]⟩, ⟨#[44]⟩] (op0 ⟨#[114, 111, 119]⟩ (aw (ws.drop k))) (ws.drop k) o)) from pform_any ⟨#[114, 111, 119]⟩ 0 [⟨#[76, 73, 84]⟩, ⟨#[58]⟩, ⟨#[76, 73, 84]⟩, ⟨#[44]⟩] w1.heap.size (recs hg (ws.drop k).length).2 (HT.out.next HS2.out) (by rw [List.length_drop]; exact Nat.le_refl _) (by omega) (pa_new w1 [⟨#[76, 73, 84]⟩, ⟨#[58]⟩, ⟨#[76, 73, 84]⟩, ⟨#[44]⟩]) (by have := HP.out.pl; omega) (by decide) ⟨_, rfl, by decide⟩ hg (ne_all (by decide)) (HP.out.next HS2.out))
    have HB2 := hid (HB.out.next HS2.out)
    have HG2 := hid (HG.out.below HS2.out)
    have WS2 := hid (Nat.lt_of_lt_of_le WS.out HS2.out.size)
    go_wp2_with (go_at_call 30; with_reducible refine Calls.mono (HC.out) ?_; rintro e w5 h5; obtain ⟨g5, k', t, sa, sm, sc, ok, hk, hk2, hl, p5, rfl, hok, nv, ht⟩ := h5.parts; have HK2 := hid hk2; clear hk2; have HR5 := hid (HB2.out.gr g5 (by omega)); have HP5 := hid p5; have HG5 := hid (HG2.out.trans g5); have HN5 := hid nv; have HT5 := hid ht; have HL5 := hid hl; have HO5 := hid hok; clear h5 g5 p5 nv ht hl hok; obtain ⟨r0, r1, r2, r3, r4, r5, rz⟩ := HR5.out; have BF := hid (HR5.out.sets (.string t.op) (.string t.name) (.int .i64 (t.kind : Nat)) (.int .i64 t.n) (.int .i64 (t.pl : Nat)) (.slice sa sm sc)); have PF := hid (HP5.out.put6 (q := w.heap.size) (by omega) (by omega) (.string t.op) (.string t.name) (.int .i64 (t.kind : Nat)) (.int .i64 t.n) (.int .i64 (t.pl : Nat)) (.slice sa sm sc)); have GF := hid (HG5.out.put6 (q := w.heap.size) (by omega) (.string t.op) (.string t.name) (.int .i64 (t.kind : Nat)) (.int .i64 t.n) (.int .i64 (t.pl : Nat)) (.slice sa sm sc)); have NF := hid (HN5.out.put6w (q := w.heap.size) (m := w.heap.size) (by have := WS2.out; omega) (.string t.op) (.string t.name) (.int .i64 (t.kind : Nat)) (.int .i64 t.n) (.int .i64 (t.pl : Nat)) (.slice sa sm sc)))
    generalize World.setCell _ ⟨w.heap.size, 5, none⟩ _ = w6 at *
    obtain ⟨f0, f1, f2, f3, f4, f5, _⟩ := BF.out
    exact bodyPost_ret (v := .tuple #[.agg #[.string t.op, .string t.name, .int .i64 (t.kind : Nat), .int .i64 t.n, .int .i64 (t.pl : Nat), .slice sa sm sc], .bool ok]) (by simp [results, Tryd.results49, go_sem, f0, f1, f2, f3, f4, f5]) rfl (⟨GF.out, k', _, hk, fun e => HK2.out (by rw [← HO5.out]; exact e), HL5.out, PF.out, congrArg (fun x => Ending.returned (.tuple #[.agg #[.string t.op, .string t.name, .int .i64 (t.kind : Nat), .int .i64 t.n, .int .i64 (t.pl : Nat), .slice sa sm sc], .bool x])) HO5.out.symm, t, ⟨_, rfl, NF.out⟩, HT5.out⟩)

  | true =>
    show Calls _ _ _ _ fun e w' => Rp w w' p b c ws k e (formF (recU (ws.drop k).length).2 0 [⟨#[101, 108, 115, 101]⟩, ⟨#[76, 73, 84]⟩] (op0 ⟨#[114, 111, 119]⟩ (aw (ws.drop k))) (ws.drop k) o)
    go_enter Tryd.func49, Tryd.ntmps49
    go_upto_region 1 with fail
    generalize World.alloc w _ = w1 at *
    go_upto_region 2 with fail
    have HS2 := hid (show Below w1.heap.size w1 (w1.alloc (.cells #[.string ⟨#[101, 108, 115, 101]⟩, .string ⟨#[76, 73, 84]⟩] 9)) from (Below.refl _ _).alloc (Nat.le_refl _) _)
    have HC := hid (show Calls Tryd.prog 30 #[.pointer (some ⟨p, 0, none⟩), .string ⟨#[114, 111, 119]⟩, .int .i64 0, .slice (some ⟨w1.heap.size, 0, none⟩) 2 2] (w1.alloc (.cells #[.string ⟨#[101, 108, 115, 101]⟩, .string ⟨#[76, 73, 84]⟩] 9)) (fun e w' => Rp (w1.alloc (.cells #[.string ⟨#[101, 108, 115, 101]⟩, .string ⟨#[76, 73, 84]⟩] 9)) w' p b c ws k e (formF (recU (ws.drop k).length).2 0 [⟨#[101, 108, 115, 101]⟩, ⟨#[76, 73, 84]⟩] (op0 ⟨#[114, 111, 119]⟩ (aw (ws.drop k))) (ws.drop k) o)) from pform_any ⟨#[114, 111, 119]⟩ 0 [⟨#[101, 108, 115, 101]⟩, ⟨#[76, 73, 84]⟩] w1.heap.size (recs hg (ws.drop k).length).2 (HT.out.next HS2.out) (by rw [List.length_drop]; exact Nat.le_refl _) (by omega) (pa_new w1 [⟨#[101, 108, 115, 101]⟩, ⟨#[76, 73, 84]⟩]) (by have := HP.out.pl; omega) (by decide) ⟨_, rfl, by decide⟩ hg (ne_all (by decide)) (HP.out.next HS2.out))
    have HB2 := hid (HB.out.next HS2.out)
    have HG2 := hid (HG.out.below HS2.out)
    have WS2 := hid (Nat.lt_of_lt_of_le WS.out HS2.out.size)
    go_wp2_with (go_at_call 30; with_reducible refine Calls.mono (HC.out) ?_; rintro e w5 h5; obtain ⟨g5, k', t, sa, sm, sc, ok, hk, hk2, hl, p5, rfl, hok, nv, ht⟩ := h5.parts; have HK2 := hid hk2; clear hk2; have HR5 := hid (HB2.out.gr g5 (by omega)); have HP5 := hid p5; have HG5 := hid (HG2.out.trans g5); have HN5 := hid nv; have HT5 := hid ht; have HL5 := hid hl; have HO5 := hid hok; clear h5 g5 p5 nv ht hl hok; obtain ⟨r0, r1, r2, r3, r4, r5, rz⟩ := HR5.out; have BF := hid (HR5.out.sets (.string t.op) (.string t.name) (.int .i64 (t.kind : Nat)) (.int .i64 t.n) (.int .i64 (t.pl : Nat)) (.slice sa sm sc)); have PF := hid (HP5.out.put6 (q := w.heap.size) (by omega) (by omega) (.string t.op) (.string t.name) (.int .i64 (t.kind : Nat)) (.int .i64 t.n) (.int .i64 (t.pl : Nat)) (.slice sa sm sc)); have GF := hid (HG5.out.put6 (q := w.heap.size) (by omega) (.string t.op) (.string t.name) (.int .i64 (t.kind : Nat)) (.int .i64 t.n) (.int .i64 (t.pl : Nat)) (.slice sa sm sc)); have NF := hid (HN5.out.put6w (q := w.heap.size) (m := w.heap.size) (by have := WS2.out; omega) (.string t.op) (.string t.name) (.int .i64 (t.kind : Nat)) (.int .i64 t.n) (.int .i64 (t.pl : Nat)) (.slice sa sm sc)))
    generalize World.setCell _ ⟨w.heap.size, 5, none⟩ _ = w6 at *
    obtain ⟨f0, f1, f2, f3, f4, f5, _⟩ := BF.out
    exact bodyPost_ret (v := .tuple #[.agg #[.string t.op, .string t.name, .int .i64 (t.kind : Nat), .int .i64 t.n, .int .i64 (t.pl : Nat), .slice sa sm sc], .bool ok]) (by simp [results, Tryd.results49, go_sem, f0, f1, f2, f3, f4, f5]) rfl (⟨GF.out, k', _, hk, fun e => HK2.out (by rw [← HO5.out]; exact e), HL5.out, PF.out, congrArg (fun x => Ending.returned (.tuple #[.agg #[.string t.op, .string t.name, .int .i64 (t.kind : Nat), .int .i64 t.n, .int .i64 (t.pl : Nat), .slice sa sm sc], .bool x])) HO5.out.symm, t, ⟨_, rfl, NF.out⟩, HT5.out⟩)

end Go.Proofs.YtobolipjgkabhaaDoor
