/- The walks over package publicanref1, on: a number of two limbs by digits. -/
import Derived.Test.YtlgdolchnlagcaaB10
namespace Go.Proofs.Ytlgdolchnlagcaa
open Go.RowKit Go.Deep
set_option linter.unusedVariables false

theorem sm_lt {x : Int} (h : -pw 14 < x) (k : x < pw 14) : Sm x := by
  have : pw 14 < pw 15 := by decide
  unfold Sm; omega
theorem smA {hi : Int} (h : -M63 ≤ hi) (k : hi < M63) : Sm hi := sm_lt (by have : M63 < pw 14 := by decide
                                                                           omega) (by have : M63 < pw 14 := by decide
                                                                                      omega)
theorem smB {hi : Int} (h : -M63 ≤ hi) (k : hi < M63) : Sm (hi * 4294967296) := by
  have : M63 * 4294967296 < pw 15 := by decide
  unfold Sm; omega
theorem smC {hi : Int} (h : -M63 ≤ hi) (k : hi < M63) : Sm (hi * 4294967296 * 4294967296) := by
  have : M63 * 4294967296 * 4294967296 < pw 15 := by decide
  unfold Sm; omega
theorem sm32 : Sm 4294967296 := by unfold Sm; decide
theorem smL {lo : Int} (h : 0 ≤ lo) (k : lo < M64) : Sm lo := by
  have : M64 < pw 15 := by decide
  have := pw_pos 15
  unfold Sm; omega

theorem Rd1.out' {W w1 w' : World} {p : Nat} {na : Bool} {a : Option Addr} {n ca : Nat} (g : Rd1 W p na a n ca w1) (hb : Below w1.heap.size w1 w') : Below W.heap.size W w' := g.2.2.trans (hb.mono g.2.2.size)
theorem Rd1.alloc {W w1 : World} {p : Nat} {na : Bool} {a : Option Addr} {n ca : Nat} (h : Rd1 W p na a n ca W) (g : Rd1 W p na a n ca w1) (o : Obj) : Rd1 W p na a n ca (w1.alloc o) := h.mk (g.2.2.alloc g.2.2.size o)
theorem Rd1.store {W w1 : World} {p c : Nat} {na : Bool} {a : Option Addr} {n ca : Nat} {u v : Value} (h : Rd1 W p na a n ca W) (g : Rd1 W p na a n ca w1) (hc : W.heap.size ≤ c) : Rd1 W p na a n ca ((w1.setCell ⟨c, 0, none⟩ u).setCell ⟨c, 1, none⟩ v) :=
  h.mk ((g.2.2.setCell (p := ⟨c, 0, none⟩) hc _).setCell (p := ⟨c, 1, none⟩) hc _)

/-- A new place for a number by digits, still empty. -/
structure Plc (w : World) (c : Nat) : Prop where
  c0 : w.cell? ⟨c, 0, none⟩ = some (.bool false)
  c1 : w.cell? ⟨c, 1, none⟩ = some (.slice none 0 0)
  fz : ∀ o, w.frozen? ⟨c, o, none⟩ = false
  lt : c < w.heap.size
theorem Plc.below {w w' : World} {c : Nat} (h : Plc w c) (hb : Below w.heap.size w w') : Plc w' c :=
  ⟨by rw [hb.cell (p := ⟨c, 0, none⟩) h.lt]; exact h.c0, by rw [hb.cell (p := ⟨c, 1, none⟩) h.lt]; exact h.c1, fun o => by rw [hb.frozen (p := ⟨c, o, none⟩) h.lt]; exact h.fz o, Nat.lt_of_lt_of_le h.lt hb.size⟩
theorem Plc.new (w : World) : Plc (w.alloc (.cells #[.bool false, .slice none 0 0] 35)) w.heap.size := ⟨by simp, by simp, fun o => by simp, by simp⟩

set_option maxHeartbeats 8000000 in
set_option maxRecDepth 100000 in
theorem bwide_any (hi lo : Int) (w : World) (h1 : -M63 ≤ hi) (h2 : hi < M63) (l1 : 0 ≤ lo) (l2 : lo < M64) :
    Calls Try.prog 39 #[.int .i64 hi, .int .u64 lo] w fun e w' => NewB w w' e (val hi lo) ∧ Below w.heap.size w w' := by
  go_enter Try.func39, Try.ntmps39
  go_wp2_with fail
  refine (bof_any _ _ h1 h2).mono ?_
  rintro e w1 ⟨⟨s1, a1, n1, c1, d1, rfl, g1, f1⟩, hb1⟩
  have A0 := Sits.new w false none 0 0
  have A1 := (A0.below hb1).below ((Below.refl _ _).alloc (Nat.le_refl _) (.cells #[.bool s1, .slice a1 n1 c1] 35))
  have B0 := (Below.refl w.heap.size w).alloc (Nat.le_refl _) (.cells #[.bool false, .slice none 0 0] 35)
  have B1 := B0.trans (hb1.mono B0.size)
  have B2 := B1.alloc B1.size (.cells #[.bool s1, .slice a1 n1 c1] 35)
  have S1 := Sits.new w1 s1 a1 n1 c1
  have G1 := g1.below ((Below.refl _ _).alloc (Nat.le_refl _) (.cells #[.bool s1, .slice a1 n1 c1] 35))
  have fz0 : ∀ o, (w1.alloc (.cells #[.bool s1, .slice a1 n1 c1] 35)).frozen? ⟨w.heap.size, o, none⟩ = false := fun o => by
    have q : Below w1.heap.size w1 (w1.alloc (.cells #[.bool s1, .slice a1 n1 c1] 35)) := (Below.refl _ _).alloc (Nat.le_refl _) _
    rw [q.frozen (p := ⟨w.heap.size, o, none⟩) (by have := hb1.size; simp at this; show w.heap.size < _; omega), hb1.frozen (p := ⟨w.heap.size, o, none⟩) (by simp)]
    simp
  have HF : Hid _ := And.intro A1 (And.intro B2 (And.intro G1 fz0))
  go_upto_region 2 with fail
  clear A0 A1 B0 B1 B2 G1 g1 f1 hb1 fz0
  have t0 := S1.c0
  have t1 := S1.c1
  generalize hW : w1.alloc (.cells #[.bool s1, .slice a1 n1 c1] 35) = W at *
  have R : Rd1 W w1.heap.size s1 a1 n1 c1 W := ⟨t0, t1, Below.refl _ _⟩
  clear hW S1
  generalize w1.heap.size = p1 at *
  go_cut [6] (fun p wx => ∃ c, p = .pointer (some ⟨c, 0, none⟩) ∧ Made W wx c (hi * 4294967296 * 4294967296))
  case first =>
    go_region_held3 (Rd1 W p1 s1 a1 n1 c1) (first | exact R.mk (Below.refl _ _).drew | exact Rd1.call R (by assumption) (by assumption) | exact Rd1.alloc R (by assumption) _ | exact Rd1.store R (by assumption) (by omega) | exact R.mk (E4.alloc E4.size _) | exact R.mk ((E4.setCell (p := ⟨_, 0, none⟩) (by first | exact Nat.le_refl _ | exact E1.size | exact E2.size | exact E3.size) _).setCell (p := ⟨_, 1, none⟩) (by first | exact Nat.le_refl _ | exact E1.size | exact E2.size | exact E3.size) _)) (first | (go_at_call 34; have tk := t0; clear t0; refine (u_any _ _ _ (by decide) (by decide)).mono ?_; rintro e v1 ⟨⟨x1, y1, z1, k1, j1, rfl, g1, f1⟩, hb1⟩; have E1 := Rd1.out' (show Rd1 W p1 s1 a1 n1 c1 _ by assumption) hb1; try (have P1 := (Plc.new _).below ((Below.refl _ _).drew.trans hb1))) | (go_at_call 21; have tk2 := t1; clear t1; refine (bmul_sm (HF.out.2.2.1.below (show Rd1 W p1 s1 a1 n1 c1 _ by assumption).2.2) (by first | exact g1 | exact g1.below ((Below.refl _ _).alloc (Nat.le_refl _) _)) (smA h1 h2) sm32).mono ?_; rintro e v2 ⟨⟨x2, y2, z2, k2, j2, rfl, g2, f2⟩, hb2⟩; have E2 := Rd1.out' (show Rd1 W p1 s1 a1 n1 c1 _ by assumption) hb2; (try (have P2 := P1.below hb2)); (try (have P2 := (Plc.new _).below hb2))) | (go_at_call 34; refine (u_any _ _ _ (by decide) (by decide)).mono ?_; rintro e v3 ⟨⟨x3, y3, z3, k3, j3, rfl, g3, f3⟩, hb3⟩; have E3 := Rd1.out' (show Rd1 W p1 s1 a1 n1 c1 _ by assumption) hb3; (try (have P3 := P2.below hb3)); (try (have P3 := (Plc.new _).below hb3))) | (go_at_call 21; refine (bmul_sm (by first | exact g2.below hb3 | exact (g2.below ((Below.refl _ _).alloc (Nat.le_refl _) _)).below hb3 | exact (g2.below hb3).below ((Below.refl _ _).alloc (Nat.le_refl _) _)) (by first | exact g3 | exact g3.below ((Below.refl _ _).alloc (Nat.le_refl _) _)) (smB h1 h2) sm32).mono ?_; rintro e v4 ⟨⟨x4, y4, z4, k4, j4, rfl, g4, f4⟩, hb4⟩; have E4 := Rd1.out' (show Rd1 W p1 s1 a1 n1 c1 _ by assumption) hb4; (try (have P4 := P3.below hb4)); (try (have P4 := (Plc.new _).below hb4)); (try (have q0 := P4.c0)); (try (have q1 := P4.c1)); (try (have q2 := P4.fz))))
    all_goals go_wp2
    all_goals go_meet
    all_goals first | exact ⟨_, rfl, madeB E4 g4 (by first | exact E3.size | (have := E3.size; simp; omega)) f4 (by first | exact Nat.le_refl _ | exact E1.size | exact E2.size | exact E3.size) (by first | exact P3.lt | simp) P4.c0 P4.c1⟩ | exact ⟨_, rfl, madeA E4 g4 E3.size f4⟩
  case rest =>
    obtain ⟨c, rfl, sg, a', m', cap', ds', S, G, hbx, hc, hf⟩ := hcut
    have P0 : Hid (Plc wc w.heap.size) := Plc.below ⟨HF.out.1.c0, HF.out.1.c1, HF.out.2.2.2, HF.out.1.lt⟩ hbx
    have BB : Hid _ := HF.out.2.1.trans (hbx.mono HF.out.2.1.size)
    have wl : w.heap.size < wc.heap.size := P0.out.lt
    have HS : Hid _ := S
    have HG : Hid _ := G
    have EV : Hid (hi * 4294967296 * 4294967296 + sgn false lo = val hi lo) := by show _ = _; rw [sgn_false]; unfold val M64; omega
    clear t0 t1 R HF hbx hc hf
    have t0 := S.c0
    have t1 := S.c1
    clear S G
    go_wp2_with fail
    unfold M64 at l2
    go_region_with (first | (go_at_call 34; refine (u_any _ _ _ l1 l2).mono ?_; rintro e v1 ⟨⟨x1, y1, z1, k1, j1, rfl, g1, f1⟩, hb1⟩; have Q1 := HS.out.below ((Below.refl _ _).drew.trans hb1); have r0 := Q1.c0; have r1 := Q1.c1) | (go_at_call 19; refine (badd_sm (HG.out.below ((Below.refl _ _).drew.trans hb1)) g1 (smC h1 h2) ?_).mono ?_; (rw [sgn_false]; exact smL l1 (by unfold M64; exact l2)); rw [EV.out]; rintro e v2 ⟨⟨x2, y2, z2, k2, j2, rfl, g2, f2⟩, hb2⟩; have P2 := (P0.out.below ((Below.refl _ _).drew.trans hb1)).below hb2; have q0 := P2.c0; have q1 := P2.c1; have q2 := P2.fz))
    all_goals
      have b1 := BB.out.drew.trans (hb1.mono BB.out.size)
      have b2 := b1.trans (hb2.mono b1.size)
      have sz1 := hb1.size
      have NB : Hid (NewB w ((v2.setCell ⟨w.heap.size, 0, none⟩ (.bool x2)).setCell ⟨w.heap.size, 1, none⟩ (.slice y2 z2 k2)) (.returned (.agg #[.bool x2, .slice y2 z2 k2])) (val hi lo)) := NewB.pass g2 f2 (by have : wc.drew.heap.size = wc.heap.size := rfl; omega) (by have := b1.size; omega)
      have BF : Hid (Below w.heap.size w ((v2.setCell ⟨w.heap.size, 0, none⟩ (.bool x2)).setCell ⟨w.heap.size, 1, none⟩ (.slice y2 z2 k2))) := (b2.setCell (p := ⟨w.heap.size, 0, none⟩) (Nat.le_refl _) _).setCell (p := ⟨w.heap.size, 1, none⟩) (Nat.le_refl _) _
      go_wp2
      exact bodyPost_ret (v := .agg #[.bool x2, .slice y2 z2 k2]) (by simp [results, Try.results39, go_sem, q0, q1]) rfl ⟨NB.out, BF.out⟩

set_option maxHeartbeats 1000000 in
theorem own_any (hi lo : Int) (w : World) (h1 : -M63 ≤ hi) (h2 : hi < M63) (l1 : 0 ≤ lo) (l2 : lo < M64) :
    Calls Try.prog 25 #[.agg #[.int .i64 hi, .int .u64 lo]] w fun e w' => NewB w w' e (val hi lo) ∧ Below w.heap.size w w' := by
  go_enter Try.func25, Try.ntmps25
  go_wp2_with fail
  refine (bwide_any _ _ _ h1 h2 l1 l2).mono ?_
  rintro e w1 ⟨⟨sg, a, m, cap, ds, rfl, hg, hf⟩, hb1⟩
  have al1 : Below w.heap.size w (w.alloc (.cells #[.int .i64 hi, .int .u64 lo] 28)) := (Below.refl _ _).alloc (Nat.le_refl _) _
  have P := Plc.new (w.alloc (.cells #[.int .i64 hi, .int .u64 lo] 28))
  have e1 : (w.alloc (.cells #[.int .i64 hi, .int .u64 lo] 28)).heap.size = w.heap.size + 1 := by simp
  rw [e1] at P
  have P1 := P.below hb1
  have q0 := P1.c0
  have q1 := P1.c1
  have q2 := P1.fz
  have B1 := al1.alloc al1.size (.cells #[.bool false, .slice none 0 0] 35)
  have B2 := B1.trans (hb1.mono B1.size)
  have NB : Hid (NewB w ((w1.setCell ⟨w.heap.size + 1, 0, none⟩ (.bool sg)).setCell ⟨w.heap.size + 1, 1, none⟩ (.slice a m cap)) (.returned (.agg #[.bool sg, .slice a m cap])) (val hi lo)) := NewB.pass hg hf (by simp) (by simp; omega)
  have BF : Hid (Below w.heap.size w ((w1.setCell ⟨w.heap.size + 1, 0, none⟩ (.bool sg)).setCell ⟨w.heap.size + 1, 1, none⟩ (.slice a m cap))) := (B2.setCell (p := ⟨w.heap.size + 1, 0, none⟩) (Nat.le_add_right _ _) _).setCell (p := ⟨w.heap.size + 1, 1, none⟩) (Nat.le_add_right _ _) _
  clear P P1 B1 B2 hb1 hg hf al1 e1
  go_wp2
  exact bodyPost_ret (v := .agg #[.bool sg, .slice a m cap]) (by simp [results, Try.results25, go_sem, q0, q1]) rfl ⟨NB.out, BF.out⟩

end Go.Proofs.Ytlgdolchnlagcaa
