/- The walk over the law's own: a page as the document's. -/
import Derived.Test.YtfedcghkohfhlaaS3
namespace Go.Proofs.Ytfedcghkohfhlaa
open Go.RowKit
set_option linter.unusedVariables false
set_option linter.unusedSimpArgs false

theorem s4_of {W : World} {b : Nat} {c0 c1 c2 c3 : Value} (h : B4 W b c0 c1 c2 c3) : W.cell? ⟨b, 0, none⟩ = some c0 ∧ W.cell? ⟨b, 1, none⟩ = some c1 ∧ W.cell? ⟨b, 2, none⟩ = some c2 ∧ W.cell? ⟨b, 3, none⟩ = some c3 := ⟨h.a0, h.a1, h.a2, h.a3⟩
set_option maxRecDepth 100000 in
set_option maxHeartbeats 8000000 in
theorem own_page (v : Value) (p : Pg) (w : World) (h : Pv w v p) (f : Bd p) :
    Calls Try.prog 14 #[v] w fun e w' => NewP w w' e p := by
  obtain ⟨ka, kn, kc, va, vn, vc, ia, im, ic, rfl, h1, h2, h3⟩ := h.ex
  obtain ⟨lf, ks, vs, is⟩ := p
  simp only at h1 h2 h3
  have l1 := h1.slen
  have l2 := h2.slen
  have l3 := h3.klen
  have b1 := f.keys
  have b2 := f.vals
  have b3 := f.kids
  simp only at b1 b2 b3
  have KB : Hid _ := f.kid
  have HH : Hid _ := And.intro h1 (And.intro h2 h3)
  have LL : Hid _ := And.intro l1 (And.intro l2 l3)
  have n1 : kn ≤ 90000 := by omega
  have n2 : vn ≤ 90000 := by omega
  have n3 : im ≤ 90001 := by omega
  have C0 : Hid (∀ t t', Cp w w.heap.size (w.heap.size + 1) (.bool lf) (.slice ka kn kc) (.slice va vn vc) (.slice ia im ic) (.bool false) (.slice none 0 0) (.slice none 0 0) (.slice none 0 0) ((w.alloc (.cells #[.bool lf, .slice ka kn kc, .slice va vn vc, .slice ia im ic] t)).alloc (.cells #[.bool false, .slice none 0 0, .slice none 0 0, .slice none 0 0] t'))) := fun t t' => by
    refine ⟨nextB (allocB w _) (allocB _ _), (B4.new w _ _ _ _ t).below (allocB _ _), ?_, fun o => by simp⟩
    have q := B4.new (w.alloc (.cells #[.bool lf, .slice ka kn kc, .slice va vn vc, .slice ia im ic] t)) (.bool false) (.slice none 0 0) (.slice none 0 0) (.slice none 0 0) t'
    simpa using q
  clear h f h1 h2 h3 l1 l2 l3
  go_enter Try.func14, Try.ntmps14
  go_wp2_with fail
  have Q0 : Hid _ := C0.out 26 35
  generalize ((w.alloc (.cells #[.bool lf, .slice ka kn kc, .slice va vn vc, .slice ia im ic] 26)).alloc (.cells #[.bool false, .slice none 0 0, .slice none 0 0, .slice none 0 0] 35)) = W0 at *
  have S0 : W0.drew.cell? ⟨w.heap.size, 0, none⟩ = some (.bool lf) ∧ W0.drew.cell? ⟨w.heap.size, 1, none⟩ = some (.slice ka kn kc) ∧ W0.drew.cell? ⟨w.heap.size, 2, none⟩ = some (.slice va vn vc) ∧ W0.drew.cell? ⟨w.heap.size, 3, none⟩ = some (.slice ia im ic) := ⟨Q0.out.box.a0, Q0.out.box.a1, Q0.out.box.a2, Q0.out.box.a3⟩
  have S9 : W0.cell? ⟨w.heap.size, 0, none⟩ = some (.bool lf) ∧ W0.cell? ⟨w.heap.size, 1, none⟩ = some (.slice ka kn kc) ∧ W0.cell? ⟨w.heap.size, 2, none⟩ = some (.slice va vn vc) ∧ W0.cell? ⟨w.heap.size, 3, none⟩ = some (.slice ia im ic) := ⟨Q0.out.box.a0, Q0.out.box.a1, Q0.out.box.a2, Q0.out.box.a3⟩
  obtain ⟨x0, x1, x2, x3⟩ := S9
  go_region_held3 (fun W => W.cell? ⟨w.heap.size, 0, none⟩ = some (.bool lf) ∧ W.cell? ⟨w.heap.size, 1, none⟩ = some (.slice ka kn kc) ∧ W.cell? ⟨w.heap.size, 2, none⟩ = some (.slice va vn vc) ∧ W.cell? ⟨w.heap.size, 3, none⟩ = some (.slice ia im ic)) (first | with_reducible assumption | (go_keep; done) | exact s4_of (Q0.out.box.below (nextB (nextB (allocB _ _) (allocB _ _)) (allocB _ _)).drew)) (first | (refine step_append_fresh 23 9 (.string ByteArray.empty) 16 Try.underlying23 strInfo rfl (by decide) (by rfl) (.tmp 5) (.tmp 7) (by rfl) _ (by rfl) ka kn kc (sv ks) (by rfl) (Sl.below HH.out.1 ?_) (by omega) ?_; (first | exact (Q0.out.bel).drew | exact (nextB (Q0.out.bel) (allocB _ _)).drew | exact (nextB (nextB (Q0.out.bel) (allocB _ _)) (allocB _ _)).drew | exact (nextB (nextB (nextB (Q0.out.bel) (allocB _ _)) (allocB _ _)) (allocB _ _)).drew); intro a8 c8 w8 s8 z8 b8; have d8 : Hid (Below W0.heap.size W0 w8) := (by first | exact b8 | exact nextB ((allocB _ _).drew) b8 | exact nextB ((nextB (allocB _ _) (allocB _ _)).drew) b8 | exact nextB ((nextB (nextB (allocB _ _) (allocB _ _)) (allocB _ _)).drew) b8); have y8 : Hid (∀ x, a8 = some x → 0 < kn → W0.heap.size ≤ x.block) := (fun x hx p => by have := z8 x hx p; (try simp only [World.size_alloc, World.size_drew] at this); omega); have Q8 : Hid _ := Q0.out.next d8.out; have S8 := And.intro Q8.out.box.a0 (And.intro Q8.out.box.a1 (And.intro Q8.out.box.a2 Q8.out.box.a3)); clear z8 b8) | (refine step_append_fresh 23 9 (.string ByteArray.empty) 16 Try.underlying23 strInfo rfl (by decide) (by rfl) (.tmp 9) (.tmp 11) (by rfl) _ (by rfl) va vn vc (sv vs) (by rfl) (Sl.below HH.out.2.1 ?_) (by omega) ?_; (first | exact Q8.out.bel | exact nextB (Q8.out.bel) (allocB _ _) | exact nextB (nextB (Q8.out.bel) (allocB _ _)) (allocB _ _) | exact nextB (nextB (nextB (Q8.out.bel) (allocB _ _)) (allocB _ _)) (allocB _ _)); intro a12 c12 w12 s12 z12 b12; have d12 : Hid (Below w8.heap.size w8 w12) := (by first | exact b12 | exact nextB (allocB _ _) b12 | exact nextB (nextB (allocB _ _) (allocB _ _)) b12 | exact nextB (nextB (nextB (allocB _ _) (allocB _ _)) (allocB _ _)) b12); have y12 : Hid (∀ x, a12 = some x → 0 < vn → w8.heap.size ≤ x.block) := (fun x hx p => by have := z12 x hx p; (try simp only [World.size_alloc, World.size_drew] at this); omega); have Q12 : Hid _ := Q8.out.next d12.out; have S12 := And.intro Q12.out.box.a0 (And.intro Q12.out.box.a1 (And.intro Q12.out.box.a2 Q12.out.box.a3)); clear z12 b12) | (refine step_append_fresh 24 31 (.int .u64 0) 8 Try.underlying24 u64Info rfl (by decide) (by rfl) (.tmp 13) (.tmp 15) (by rfl) _ (by rfl) ia im ic (kv is) (by rfl) (Sl.below HH.out.2.2 ?_) (by omega) ?_; (first | exact Q12.out.bel | exact nextB (Q12.out.bel) (allocB _ _) | exact nextB (nextB (Q12.out.bel) (allocB _ _)) (allocB _ _) | exact nextB (nextB (nextB (Q12.out.bel) (allocB _ _)) (allocB _ _)) (allocB _ _)); intro a16 c16 w16 s16 z16 b16; have d16 : Hid (Below w12.heap.size w12 w16) := (by first | exact b16 | exact nextB (allocB _ _) b16 | exact nextB (nextB (allocB _ _) (allocB _ _)) b16 | exact nextB (nextB (nextB (allocB _ _) (allocB _ _)) (allocB _ _)) b16); have y16 : Hid (∀ x, a16 = some x → 0 < im → w12.heap.size ≤ x.block) := (fun x hx p => by have := z16 x hx p; (try simp only [World.size_alloc, World.size_drew] at this); omega); have Q16 : Hid _ := Q12.out.next d16.out; have S16 := And.intro Q16.out.box.a0 (And.intro Q16.out.box.a1 (And.intro Q16.out.box.a2 Q16.out.box.a3)); have r0 := Q16.out.res.a0; have r1 := Q16.out.res.a1; have r2 := Q16.out.res.a2; have r3 := Q16.out.res.a3; have rz := Q16.out.fz; clear z16 b16))
  all_goals
    have X : Hid _ := stored4 Q16.out.res (.bool lf) (.slice a8 kn c8) (.slice a12 vn c12) (.slice a16 im c16)
    have lr := Q0.out.res.lt
    have P : Hid (Pv ((((w16.setCell ⟨w.heap.size + 1, 0, none⟩ (.bool lf)).setCell ⟨w.heap.size + 1, 1, none⟩ (.slice a8 kn c8)).setCell ⟨w.heap.size + 1, 2, none⟩ (.slice a12 vn c12)).setCell ⟨w.heap.size + 1, 3, none⟩ (.slice a16 im c16)) (.agg #[.bool lf, .slice a8 kn c8, .slice a12 vn c12, .slice a16 im c16]) ⟨lf, ks, vs, is⟩) := by
      refine Pv.mk' (((s8.below d12.out).below d16.out).grown X.out.2 (fun p x hx e => ?_)) ((s12.below d16.out).grown X.out.2 (fun p x hx e => ?_)) (s16.grown X.out.2 (fun p x hx e => ?_)) KB.out
      · have := y8.out x hx p; injection e with e; omega
      · have := y12.out x hx p; have := d8.out.size; injection e with e; omega
      · have := y16.out x hx p; have := d8.out.size; have := d12.out.size; injection e with e; omega
    have B8 : Hid (Below w.heap.size w ((((w16.setCell ⟨w.heap.size + 1, 0, none⟩ (.bool lf)).setCell ⟨w.heap.size + 1, 1, none⟩ (.slice a8 kn c8)).setCell ⟨w.heap.size + 1, 2, none⟩ (.slice a12 vn c12)).setCell ⟨w.heap.size + 1, 3, none⟩ (.slice a16 im c16))) := Q16.out.bel.grown X.out.2 Q16.out.bel.size (fun k hk => by injection hk with hk; omega)
    generalize ((((w16.setCell ⟨w.heap.size + 1, 0, none⟩ (.bool lf)).setCell ⟨w.heap.size + 1, 1, none⟩ (.slice a8 kn c8)).setCell ⟨w.heap.size + 1, 2, none⟩ (.slice a12 vn c12)).setCell ⟨w.heap.size + 1, 3, none⟩ (.slice a16 im c16)) = W8 at *
    obtain ⟨⟨t0, t1, t2, t3⟩, _⟩ := X.out
    go_wp2
    exact bodyPost_ret (v := .agg #[.bool lf, .slice a8 kn c8, .slice a12 vn c12, .slice a16 im c16]) (by simp [results, Try.results14, go_sem, t0, t1, t2, t3]) rfl ⟨⟨_, rfl, P.out⟩, B8.out⟩

end Go.Proofs.Ytfedcghkohfhlaa
