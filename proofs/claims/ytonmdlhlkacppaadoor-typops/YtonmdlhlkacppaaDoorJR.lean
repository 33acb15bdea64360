/- The walk over awake. What the rows give the walks: the table of what may be reckoned, in its place. -/
import Derived.Test.YtonmdlhlkacppaaDoorJQ
import Derived.BigQuiet
import Derived.Deep.RegionHeld3
import Derived.Test.YtonmdlhlkacppaaDoorJL
import Derived.Test.YtonmdlhlkacppaaDoorRows
import Derived.ProofKit
import Derived.OpenShut
import Derived.ShutString
import Derived.ChangeOld
import Derived.Below
import Derived.ChangeMaps5
import Derived.Deep.DeepHandedRow
import Derived.Lib.LaidTab
namespace Go.Proofs.YtonmdlhlkacppaaDoor
open Go.RowKit
set_option linter.unusedVariables false
set_option linter.unusedSimpArgs false

theorem celN {w W : World} (h : Below w.heap.size w W) {a : Addr} {u : Value} (hc : w.cell? a = some u) : W.cell? a = some u := (World.cell?_of_block (h.block a.block (World.block_lt_of_cell? _ _ hc))).trans hc
theorem own_some {w : World} {base : Nat} {e : TypeId} {k : Nat} {v : Value} {n : Nat} {xs : List Value} (h : w.ownsRow base e k v (n + 1) xs) : ∃ g cap, v = .slice (some ⟨g, 0, none⟩) (n + 1) cap ∧ ∀ j u, xs[j]? = some u → w.cell? ⟨g, j, none⟩ = some u := by
  rcases h.2 with ⟨_, h2⟩ | ⟨g, cap, cur, hv, hg, rest⟩
  · omega
  · refine ⟨g, cap, hv, fun j u hu => ?_⟩
    have := h.cells (g := g) (by rw [hv]; rfl) j u hu
    have hadd : (⟨g, 0, none⟩ : Addr).add j = ⟨g, j, none⟩ := by unfold Addr.add; split <;> simp_all
    rw [hadd] at this
    exact this
set_option maxRecDepth 100000 in
set_option maxHeartbeats 16000000 in
theorem awake_any (w : World) (hT : TabM w) :
    Calls Tryd.prog 8 #[] w fun e w' => e = .returned (.bool true) ∧ Below w.heap.size w w' := by
  have K1 := hid (read_any ⟨#[114, 117, 108, 101, 32, 97, 32, 109, 111, 110, 101, 121, 32, 61, 32, 36, 49, 32, 43, 32, 50, 59]⟩ w (by decide))
  have K2 := hid (fun W => read_any ⟨#[105, 110, 112, 117, 116, 32, 120, 32, 109, 111, 110, 101, 121, 59, 32, 114, 117, 108, 101, 32, 97, 32, 109, 111, 110, 101, 121, 32, 61, 32, 120, 32, 43, 32, 36, 50, 59]⟩ W (by decide))
  have G1 := hid (good_tr tx1_ok.1)
  have L1 := hid (len_tr (t := tx1) (by decide))
  have C1 := hid tx1_ok.2
  have O1 := tx1_ok.1
  have G2 := hid (good_tr tx2_ok.1)
  have L2 := hid (len_tr (t := tx2) (by decide))
  have C2 := hid tx2_ok.2
  have O2 := tx2_ok.1
  have Q2 := hid (kid2_is (ks := (trX tx2).kids) tx2_kid)
  unfold RdX at K1 K2
  rw [show ⟨#[114, 117, 108, 101, 32, 97, 32, 109, 111, 110, 101, 121, 32, 61, 32, 36, 49, 32, 43, 32, 50, 59]⟩ = tx1 from rfl] at K1
  rw [show (⟨#[105, 110, 112, 117, 116, 32, 120, 32, 109, 111, 110, 101, 121, 59, 32, 114, 117, 108, 101, 32, 97, 32, 109, 111, 110, 101, 121, 32, 61, 32, 120, 32, 43, 32, 36, 50, 59]⟩ : ByteArray) = tx2 from rfl] at K2
  rw [O1] at K1
  simp only [O2] at K2
  clear O1 O2
  generalize trX tx1 = t1 at *
  generalize trX tx2 = t2 at *
  have HT := hid hT
  have KC1 := hid (fun W (b : Below w.heap.size w W) S v hd => Check_any t1 G1.out.1 S W v hd G1.out.2 L1.out (hT.next b))
  have KC2 := hid (fun W (b : Below w.heap.size w W) S v hd => Check_any t2 G2.out.1 S W v hd G2.out.2 L2.out (hT.next b))
  unfold CkP at KC1 KC2
  rw [C1.out] at KC1
  rw [C2.out.1] at KC2
  simp only [Option.getD_some, Option.isNone_some, Option.getD_none, Option.isNone_none, Bool.false_eq_true, if_false, if_true] at KC1 KC2
  have KI := hid (fun W S v hd => Inputs_any t2 S W v hd L2.out)
  have KR := hid (fun W S v hd => Rules_any t2 S W v hd L2.out)
  have KK := hid (fun W S v hd => Kinds_any t2 S W v hd L2.out)
  unfold FsP at KI KR
  unfold KsP at KK
  rw [C2.out.2.1] at KI
  rw [C2.out.2.2.1] at KR
  rw [C2.out.2.2.2] at KK
  clear hT
  unfold tx1 at K1
  unfold tx2 at K2
  go_enter Tryd.func8, Tryd.ntmps8
  go_upto_region 2 with (go_at_call 9; with_reducible refine Calls.mono K1.out ?_; rintro e w2 ⟨b2, sa2, sb2, sm2, sc2, sn2, sd2, rfl, n2, m2⟩; have B2 := hid b2; have N2 := hid n2; clear b2 n2 m2)
  have B3 := hid (nextB B2.out (show Below w2.heap.size w2 ((w2.alloc (.cells #[.string t1.op, .string t1.name, .int .i64 (t1.kind : Nat), .int .i64 t1.n, .int .i64 (t1.pl : Nat), .slice sa2 sm2 sc2] 26)).alloc (.cells #[.string t1.op, .string t1.name, .int .i64 (t1.kind : Nat), .int .i64 t1.n, .int .i64 (t1.pl : Nat), .slice sb2 sn2 sd2] 29)) from ((Below.refl _ _).alloc (Nat.le_refl _) _).alloc (by simp) _))
  have X3 := hid (show B6 ((w2.alloc (.cells #[.string t1.op, .string t1.name, .int .i64 (t1.kind : Nat), .int .i64 t1.n, .int .i64 (t1.pl : Nat), .slice sa2 sm2 sc2] 26)).alloc (.cells #[.string t1.op, .string t1.name, .int .i64 (t1.kind : Nat), .int .i64 t1.n, .int .i64 (t1.pl : Nat), .slice sb2 sn2 sd2] 29)) w2.heap.size (.string t1.op) (.string t1.name) (.int .i64 (t1.kind : Nat)) (.int .i64 t1.n) (.int .i64 (t1.pl : Nat)) (.slice sa2 sm2 sc2) from (B6.new w2 26 _ _ _ _ _ _).next ((Below.refl _ _).alloc (Nat.le_refl _) _))
  have N3 := hid (N2.out.gwY (show Below w2.heap.size w2 ((w2.alloc (.cells #[.string t1.op, .string t1.name, .int .i64 (t1.kind : Nat), .int .i64 t1.n, .int .i64 (t1.pl : Nat), .slice sa2 sm2 sc2] 26)).alloc (.cells #[.string t1.op, .string t1.name, .int .i64 (t1.kind : Nat), .int .i64 t1.n, .int .i64 (t1.pl : Nat), .slice sb2 sn2 sd2] 29)) from ((Below.refl _ _).alloc (Nat.le_refl _) _).alloc (by simp) _))
  generalize World.alloc (World.alloc w2 _) _ = w3 at *
  generalize w2.heap.size = q3 at *
  have k1 := hid (KC1.out w3 B3.out _ _ N3.out)
  obtain ⟨x0, x1, x2, x3, x4, x5, xz⟩ := X3.out
  go_upto_region 3 with (go_at_call 10; with_reducible refine Calls.mono k1.out ?_; rintro e w4 ⟨rfl, b4⟩; have B4 := hid (nextB B3.out b4); clear b4)
  clear x0 x1 x2 x3 x4 x5 xz X3 N3 k1 N2 B2
  have k2 := hid (K2.out w4)
  go_upto_region 4 with (go_at_call 9; with_reducible refine Calls.mono k2.out ?_; rintro e w5 ⟨b5, sa5, sb5, sm5, sc5, sn5, sd5, rfl, n5, m5⟩; have B5 := hid b5; have N5 := hid n5; clear b5 n5 m5)
  have P6 := hid (nextB (nextB B4.out B5.out) (show Below w5.heap.size w5 ((w5.alloc (.cells #[.string t2.op, .string t2.name, .int .i64 (t2.kind : Nat), .int .i64 t2.n, .int .i64 (t2.pl : Nat), .slice sa5 sm5 sc5] 26)).alloc (.cells #[.string t2.op, .string t2.name, .int .i64 (t2.kind : Nat), .int .i64 t2.n, .int .i64 (t2.pl : Nat), .slice sb5 sn5 sd5] 29)) from ((Below.refl _ _).alloc (Nat.le_refl _) _).alloc (by simp) _))
  have X6 := hid (show B6 ((w5.alloc (.cells #[.string t2.op, .string t2.name, .int .i64 (t2.kind : Nat), .int .i64 t2.n, .int .i64 (t2.pl : Nat), .slice sa5 sm5 sc5] 26)).alloc (.cells #[.string t2.op, .string t2.name, .int .i64 (t2.kind : Nat), .int .i64 t2.n, .int .i64 (t2.pl : Nat), .slice sb5 sn5 sd5] 29)) w5.heap.size (.string t2.op) (.string t2.name) (.int .i64 (t2.kind : Nat)) (.int .i64 t2.n) (.int .i64 (t2.pl : Nat)) (.slice sa5 sm5 sc5) from (B6.new w5 26 _ _ _ _ _ _).next ((Below.refl _ _).alloc (Nat.le_refl _) _))
  have N6 := hid (N5.out.gwY (show Below w5.heap.size w5 ((w5.alloc (.cells #[.string t2.op, .string t2.name, .int .i64 (t2.kind : Nat), .int .i64 t2.n, .int .i64 (t2.pl : Nat), .slice sa5 sm5 sc5] 26)).alloc (.cells #[.string t2.op, .string t2.name, .int .i64 (t2.kind : Nat), .int .i64 t2.n, .int .i64 (t2.pl : Nat), .slice sb5 sn5 sd5] 29)) from ((Below.refl _ _).alloc (Nat.le_refl _) _).alloc (by simp) _))
  generalize World.alloc (World.alloc w5 _) _ = w6 at *
  generalize w5.heap.size = q6 at *
  clear N5 k2 B5
  have kc := hid (KC2.out w6 P6.out _ _ N6.out)
  obtain ⟨x0, x1, x2, x3, x4, x5, xz⟩ := X6.out
  go_upto_region 5 with (go_at_call 10; with_reducible refine Calls.mono kc.out ?_; rintro e wa ⟨rfl, ba⟩; have BA := hid (nextB P6.out ba); have XA := hid (X6.out.next ba); have NA := hid (N6.out.gwY ba); clear ba)
  clear x0 x1 x2 x3 x4 x5 xz X6 N6 kc
  have ki := hid (KI.out wa _ _ NA.out)
  obtain ⟨x0, x1, x2, x3, x4, x5, xz⟩ := XA.out
  go_upto_region 6 with (go_at_call 15; with_reducible refine Calls.mono ki.out ?_; rintro e wb ⟨vi, rfl, oi, bb⟩; have BB := hid (nextB BA.out bb); have XB := hid (XA.out.next bb); have NB := hid (NA.out.gwY bb); obtain ⟨gi, ci, rfl, ui⟩ := own_some (n := 0) oi; have CI0 := hid (show wb.cell? ⟨gi, 0, none⟩ = some (.string ⟨#[120]⟩) ∧ wb.cell? ⟨gi, 1, none⟩ = some (.int .i64 3) from ⟨ui 0 _ rfl, ui 1 _ rfl⟩); clear oi bb ui)
  clear x0 x1 x2 x3 x4 x5 xz XA NA ki
  have kr := hid (KR.out wb _ _ NB.out)
  obtain ⟨x0, x1, x2, x3, x4, x5, xz⟩ := XB.out
  go_upto_region 7 with (go_at_call 12; with_reducible refine Calls.mono kr.out ?_; rintro e wc ⟨vr, rfl, or1, bc⟩; have BC := hid (nextB BB.out bc); have XC := hid (XB.out.next bc); have NC9 := hid (NB.out.gwY bc); have CI1 := hid (show wc.cell? ⟨gi, 0, none⟩ = some (.string ⟨#[120]⟩) ∧ wc.cell? ⟨gi, 1, none⟩ = some (.int .i64 3) from ⟨celN bc CI0.out.1, celN bc CI0.out.2⟩); obtain ⟨gr, cr, rfl, ur⟩ := own_some (n := 0) or1; have CR0 := hid (show wc.cell? ⟨gr, 0, none⟩ = some (.string ⟨#[97]⟩) from ur 0 _ rfl); clear or1 bc ur)
  clear x0 x1 x2 x3 x4 x5 xz XB NB kr CI0
  have kk := hid (KK.out wc _ _ NC9.out)
  obtain ⟨x0, x1, x2, x3, x4, x5, xz⟩ := XC.out
  go_upto_region 8 with (go_at_call 14; with_reducible refine Calls.mono kk.out ?_; rintro e w9 ⟨vk, rfl, ok1, bd⟩; have A9 := hid (nextB BC.out bd); have XD := hid (XC.out.next bd); have ND := hid (NC9.out.gwY bd); have CI := hid (show w9.cell? ⟨gi, 0, none⟩ = some (.string ⟨#[120]⟩) ∧ w9.cell? ⟨gi, 1, none⟩ = some (.int .i64 3) from ⟨celN bd CI1.out.1, celN bd CI1.out.2⟩); have CR := hid (celN bd CR0.out); obtain ⟨gk, ck, rfl, uk⟩ := own_some (n := 1) ok1; have CK := hid (show w9.cell? ⟨gk, 1, none⟩ = some (.int .i64 3) from uk 1 _ rfl); clear ok1 bd uk)
  clear x0 x1 x2 x3 x4 x5 xz XC NC9 kk CI1 CR0
  have KOf := hid (fun W (b : Below w9.heap.size w9 W) (e : Tr) S2 v2 m he hm hde => Of_any t2 e _ S2 W _ v2 (ND.out.gwY b) G2.out.2 L2.out [] none 0 (fun i x hx => by simp at hx) (by simp) m he hm hde ((HT.out.next A9.out).next b))
  obtain ⟨k0, k1, e, hks, hke, hch, hop⟩ := Q2.out
  have GK := hid (G2.out.2 k1 (by rw [hks]; simp))
  have HE := hid (show GE 40 e from by
    cases GK.out with
    | inp nm kind a h1 h6 => cases hke
    | rul nm kind a e' h1 h6 he => injection hke with hke; rw [← hke]; exact he
    | tab nm kind kk a rs l h1 h6 k1 k6 hl hr hz =>
      cases hop)
  rw [hks] at ND
  obtain ⟨gm, cm, s1, em1, nm1, nk1⟩ := ND.out.atY 1 k1 rfl
  rw [hke] at nk1
  obtain ⟨ge, ce, s2, em2, nm2, nk2⟩ := nk1.atY 0 e rfl
  obtain ⟨ea, em, ec, rfl⟩ := nk2.slice
  injection em1 with em1 em3 em4
  subst em1 em3 em4
  subst em2
  have X9 := hid (show B6 w9 q6 (.string t2.op) (.string t2.name) (.int .i64 (t2.kind : Nat)) (.int .i64 t2.n) (.int .i64 (t2.pl : Nat)) (.slice (some ⟨gm, 0, none⟩) 2 sc5) from XD.out)
  have M5 := hid (show w9.cell? ⟨gm, 11, none⟩ = some (.slice (some ⟨ge, 0, none⟩) 1 ce) from nm1.e5)
  have E0 := hid (show w9.cell? ⟨ge, 0, none⟩ = some (.string e.op) ∧ w9.cell? ⟨ge, 1, none⟩ = some (.string e.name) ∧ w9.cell? ⟨ge, 2, none⟩ = some (.int .i64 (e.kind : Nat)) ∧ w9.cell? ⟨ge, 3, none⟩ = some (.int .i64 e.n) ∧ w9.cell? ⟨ge, 4, none⟩ = some (.int .i64 (e.pl : Nat)) ∧ w9.cell? ⟨ge, 5, none⟩ = some (.slice ea em ec) from by
    obtain ⟨h0, h1, h2, h3, h4, h5⟩ := nm2
    simp only [Nat.zero_mul, Nat.zero_add] at h0 h1 h2 h3 h4 h5
    exact ⟨h0, h1, h2, h3, h4, h5⟩)
  replace KOf := hid (fun W (b : Below w9.heap.size w9 W) => KOf.out W b e _ _ 40 HE.out (by decide) (nk2.gwY b))
  rw [hch] at KOf
  clear nm1 nk1 nm2 nk2 hks hke hch XD ND Q2 hop
  simp only [List.append_eq, List.cons_append, List.nil_append, List.append]
  refine wp_region_held_drew (S := fun W => Below w9.heap.size w9 W) (by kernel_rfl) (Below.refl _ _).drew (fun hHeld => ?_)
  refine take2 rfl (i := 0) (v := .bool true) (d := 40) rfl rfl (by kernel_rfl) (by kernel_rfl) (by kernel_rfl) (fun _ _ _ h => h) (Or.inl ⟨by rfl, ?_⟩) hHeld ?_
  · (intro W hW; (try dsimp only at hW); go_simp)
  try simp only [Act.put, List.setIfInBounds_toArray, List.set_cons_zero, List.set_cons_succ]
  refine take2 rfl (i := 1) (v := .bool true) (d := 41) rfl rfl (by kernel_rfl) (by kernel_rfl) (by kernel_rfl) (fun _ _ _ h => h) (Or.inl ⟨by rfl, ?_⟩) hHeld ?_
  · (intro W hW; (try dsimp only at hW); go_simp)
  try simp only [Act.put, List.setIfInBounds_toArray, List.set_cons_zero, List.set_cons_succ]
  refine take2 rfl (i := 2) (v := .int .i64 8) (d := 42) rfl rfl (by kernel_rfl) (by kernel_rfl) (by kernel_rfl) (fun _ _ _ h => h) (Or.inl ⟨by rfl, ?_⟩) hHeld ?_
  · (intro W hW; (try dsimp only at hW); go_simp)
  try simp only [Act.put, List.setIfInBounds_toArray, List.set_cons_zero, List.set_cons_succ]
  refine take2 rfl (i := 3) (v := .bool true) (d := 43) rfl rfl (by kernel_rfl) (by kernel_rfl) (by kernel_rfl) (fun _ _ _ h => h) (Or.inl ⟨by rfl, ?_⟩) hHeld ?_
  · (intro W hW; (try dsimp only at hW); go_simp)
  try simp only [Act.put, List.setIfInBounds_toArray, List.set_cons_zero, List.set_cons_succ]
  refine take2 rfl (i := 4) (v := .bool true) (d := 44) rfl rfl (by kernel_rfl) (by kernel_rfl) (by kernel_rfl) (fun _ _ _ h => h) (Or.inl ⟨by rfl, ?_⟩) hHeld ?_
  · (intro W hW; (try dsimp only at hW); go_simp)
  try simp only [Act.put, List.setIfInBounds_toArray, List.set_cons_zero, List.set_cons_succ]
  refine take2 rfl (i := 5) (v := .bool true) (d := 45) rfl rfl (by kernel_rfl) (by kernel_rfl) (by kernel_rfl) (fun _ _ _ h => h) (Or.inl ⟨by rfl, ?_⟩) hHeld ?_
  · (intro W hW; (try dsimp only at hW); go_simp)
  try simp only [Act.put, List.setIfInBounds_toArray, List.set_cons_zero, List.set_cons_succ]
  refine take2 rfl (i := 6) (v := .int .i64 18) (d := 46) rfl rfl (by kernel_rfl) (by kernel_rfl) (by kernel_rfl) (fun _ _ _ h => h) (Or.inl ⟨by rfl, ?_⟩) hHeld ?_
  · (intro W hW; (try dsimp only at hW); go_simp)
  try simp only [Act.put, List.setIfInBounds_toArray, List.set_cons_zero, List.set_cons_succ]
  refine take2 rfl (i := 7) (v := .bool true) (d := 47) rfl rfl (by kernel_rfl) (by kernel_rfl) (by kernel_rfl) (fun _ _ _ h => h) (Or.inl ⟨by rfl, ?_⟩) hHeld ?_
  · (intro W hW; (try dsimp only at hW); go_simp)
  try simp only [Act.put, List.setIfInBounds_toArray, List.set_cons_zero, List.set_cons_succ]
  refine take2 rfl (i := 8) (v := .bool true) (d := 48) rfl rfl (by kernel_rfl) (by kernel_rfl) (by kernel_rfl) (fun _ _ _ h => h) (Or.inl ⟨by rfl, ?_⟩) hHeld ?_
  · (intro W hW; (try dsimp only at hW); go_simp)
  try simp only [Act.put, List.setIfInBounds_toArray, List.set_cons_zero, List.set_cons_succ]
  refine take2 rfl (i := 9) (v := .bool true) (d := 49) rfl rfl (by kernel_rfl) (by kernel_rfl) (by kernel_rfl) (fun _ _ _ h => h) (Or.inl ⟨by rfl, ?_⟩) hHeld ?_
  · (intro W hW; (try dsimp only at hW); go_simp)
  try simp only [Act.put, List.setIfInBounds_toArray, List.set_cons_zero, List.set_cons_succ]
  refine take2 rfl (i := 10) (v := .bool true) (d := 50) rfl rfl (by kernel_rfl) (by kernel_rfl) (by kernel_rfl) (fun _ _ _ h => h) (Or.inl ⟨by rfl, ?_⟩) hHeld ?_
  · (intro W hW; (try dsimp only at hW); go_simp)
  try simp only [Act.put, List.setIfInBounds_toArray, List.set_cons_zero, List.set_cons_succ]
  refine take2 rfl (i := 11) (v := .bool true) (d := 51) rfl rfl (by kernel_rfl) (by kernel_rfl) (by kernel_rfl) (fun _ _ _ h => h) (Or.inl ⟨by rfl, ?_⟩) hHeld ?_
  · (intro W hW; (try dsimp only at hW); go_simp)
  try simp only [Act.put, List.setIfInBounds_toArray, List.set_cons_zero, List.set_cons_succ]
  refine take2 rfl (i := 12) (v := .bool true) (d := 52) rfl rfl (by kernel_rfl) (by kernel_rfl) (by kernel_rfl) (fun _ _ _ h => h) (Or.inl ⟨by rfl, ?_⟩) hHeld ?_
  · (intro W hW; (try dsimp only at hW); go_simp)
  try simp only [Act.put, List.setIfInBounds_toArray, List.set_cons_zero, List.set_cons_succ]
  refine take2 rfl (i := 13) (v := .int .i64 0) (d := 53) rfl rfl (by kernel_rfl) (by kernel_rfl) (by kernel_rfl) (fun _ _ _ h => h) (Or.inl ⟨by rfl, ?_⟩) hHeld ?_
  · (intro W hW; (try dsimp only at hW); go_simp)
  try simp only [Act.put, List.setIfInBounds_toArray, List.set_cons_zero, List.set_cons_succ]
  refine take2 rfl (i := 14) (v := .bool true) (d := 54) rfl rfl (by kernel_rfl) (by kernel_rfl) (by kernel_rfl) (fun _ _ _ h => h) (Or.inl ⟨by rfl, ?_⟩) hHeld ?_
  · (intro W hW; (try dsimp only at hW); go_simp)
  try simp only [Act.put, List.setIfInBounds_toArray, List.set_cons_zero, List.set_cons_succ]
  refine take2 rfl (i := 15) (v := .bool true) (d := 55) rfl rfl (by kernel_rfl) (by kernel_rfl) (by kernel_rfl) (fun _ _ _ h => h) (Or.inl ⟨by rfl, ?_⟩) hHeld ?_
  · (intro W hW; (try dsimp only at hW); go_simp)
  try simp only [Act.put, List.setIfInBounds_toArray, List.set_cons_zero, List.set_cons_succ]
  refine take2 rfl (i := 16) (v := .bool true) (d := 56) rfl rfl (by kernel_rfl) (by kernel_rfl) (by kernel_rfl) (fun _ _ _ h => h) (Or.inl ⟨by rfl, ?_⟩) hHeld ?_
  · (intro W hW; (try dsimp only at hW); go_simp)
  try simp only [Act.put, List.setIfInBounds_toArray, List.set_cons_zero, List.set_cons_succ]
  refine take2 rfl (i := 17) (v := .slice (some ⟨gi, 0, none⟩) 1 ci) (d := 57) rfl rfl (by kernel_rfl) (by kernel_rfl) (by kernel_rfl) (fun _ _ _ h => h) (Or.inl ⟨by rfl, ?_⟩) hHeld ?_
  · (intro W hW; (try dsimp only at hW); go_simp)
  try simp only [Act.put, List.setIfInBounds_toArray, List.set_cons_zero, List.set_cons_succ]
  refine take2 rfl (i := 18) (v := .int .i64 1) (d := 58) rfl rfl (by kernel_rfl) (by kernel_rfl) (by kernel_rfl) (fun _ _ _ h => h) (Or.inl ⟨by rfl, ?_⟩) hHeld ?_
  · (intro W hW; (try dsimp only at hW); go_simp)
  try simp only [Act.put, List.setIfInBounds_toArray, List.set_cons_zero, List.set_cons_succ]
  refine take2 rfl (i := 19) (v := .bool true) (d := 59) rfl rfl (by kernel_rfl) (by kernel_rfl) (by kernel_rfl) (fun _ _ _ h => h) (Or.inl ⟨by rfl, ?_⟩) hHeld ?_
  · (intro W hW; (try dsimp only at hW); go_simp)
  try simp only [Act.put, List.setIfInBounds_toArray, List.set_cons_zero, List.set_cons_succ]
  refine take2 rfl (i := 20) (v := .bool true) (d := 60) rfl rfl (by kernel_rfl) (by kernel_rfl) (by kernel_rfl) (fun _ _ _ h => h) (Or.inl ⟨by rfl, ?_⟩) hHeld ?_
  · (intro W hW; (try dsimp only at hW); go_simp)
  try simp only [Act.put, List.setIfInBounds_toArray, List.set_cons_zero, List.set_cons_succ]
  refine take2 rfl (i := 21) (v := .bool true) (d := 61) rfl rfl (by kernel_rfl) (by kernel_rfl) (by kernel_rfl) (fun _ _ _ h => h) (Or.inl ⟨by rfl, ?_⟩) hHeld ?_
  · (intro W hW; (try dsimp only at hW); go_simp)
  try simp only [Act.put, List.setIfInBounds_toArray, List.set_cons_zero, List.set_cons_succ]
  refine take2 rfl (i := 22) (v := .slice (some ⟨gi, 0, none⟩) 1 ci) (d := 62) rfl rfl (by kernel_rfl) (by kernel_rfl) (by kernel_rfl) (fun _ _ _ h => h) (Or.inl ⟨by rfl, ?_⟩) hHeld ?_
  · (intro W hW; (try dsimp only at hW); go_simp)
  try simp only [Act.put, List.setIfInBounds_toArray, List.set_cons_zero, List.set_cons_succ]
  refine take2 rfl (i := 23) (v := .pointer (some ⟨gi, 0, none⟩)) (d := 63) rfl rfl (by kernel_rfl) (by kernel_rfl) (by kernel_rfl) (fun _ _ _ h => h) (Or.inl ⟨by rfl, ?_⟩) hHeld ?_
  · (intro W hW; (try dsimp only at hW); go_simp)
  try simp only [Act.put, List.setIfInBounds_toArray, List.set_cons_zero, List.set_cons_succ]
  refine take2 rfl (i := 24) (v := .agg #[.string ⟨#[120]⟩, .int .i64 3]) (d := 64) rfl rfl (by kernel_rfl) (by kernel_rfl) (by kernel_rfl) (fun _ _ _ h => h) (Or.inl ⟨by rfl, ?_⟩) hHeld ?_
  · (intro W hW; (try dsimp only at hW); have c0 := celN hW CI.out.1; have c1 := celN hW CI.out.2; go_simp)
  try simp only [Act.put, List.setIfInBounds_toArray, List.set_cons_zero, List.set_cons_succ]
  refine take2 rfl (i := 25) (v := .agg #[.string ⟨#[120]⟩, .int .i64 3]) (d := 65) rfl rfl (by kernel_rfl) (by kernel_rfl) (by kernel_rfl) (fun _ _ _ h => h) (Or.inl ⟨by rfl, ?_⟩) hHeld ?_
  · (intro W hW; (try dsimp only at hW); go_simp)
  try simp only [Act.put, List.setIfInBounds_toArray, List.set_cons_zero, List.set_cons_succ]
  refine take2 rfl (i := 26) (v := .bool true) (d := 66) rfl rfl (by kernel_rfl) (by kernel_rfl) (by kernel_rfl) (fun _ _ _ h => h) (Or.inl ⟨by rfl, ?_⟩) hHeld ?_
  · (intro W hW; (try dsimp only at hW); go_simp)
  try simp only [Act.put, List.setIfInBounds_toArray, List.set_cons_zero, List.set_cons_succ]
  refine take2 rfl (i := 27) (v := .bool true) (d := 67) rfl rfl (by kernel_rfl) (by kernel_rfl) (by kernel_rfl) (fun _ _ _ h => h) (Or.inl ⟨by rfl, ?_⟩) hHeld ?_
  · (intro W hW; (try dsimp only at hW); go_simp)
  try simp only [Act.put, List.setIfInBounds_toArray, List.set_cons_zero, List.set_cons_succ]
  refine take2 rfl (i := 28) (v := .bool true) (d := 68) rfl rfl (by kernel_rfl) (by kernel_rfl) (by kernel_rfl) (fun _ _ _ h => h) (Or.inl ⟨by rfl, ?_⟩) hHeld ?_
  · (intro W hW; (try dsimp only at hW); go_simp)
  try simp only [Act.put, List.setIfInBounds_toArray, List.set_cons_zero, List.set_cons_succ]
  refine take2 rfl (i := 29) (v := .slice (some ⟨gr, 0, none⟩) 1 cr) (d := 69) rfl rfl (by kernel_rfl) (by kernel_rfl) (by kernel_rfl) (fun _ _ _ h => h) (Or.inl ⟨by rfl, ?_⟩) hHeld ?_
  · (intro W hW; (try dsimp only at hW); go_simp)
  try simp only [Act.put, List.setIfInBounds_toArray, List.set_cons_zero, List.set_cons_succ]
  refine take2 rfl (i := 30) (v := .int .i64 1) (d := 70) rfl rfl (by kernel_rfl) (by kernel_rfl) (by kernel_rfl) (fun _ _ _ h => h) (Or.inl ⟨by rfl, ?_⟩) hHeld ?_
  · (intro W hW; (try dsimp only at hW); go_simp)
  try simp only [Act.put, List.setIfInBounds_toArray, List.set_cons_zero, List.set_cons_succ]
  refine take2 rfl (i := 31) (v := .bool true) (d := 71) rfl rfl (by kernel_rfl) (by kernel_rfl) (by kernel_rfl) (fun _ _ _ h => h) (Or.inl ⟨by rfl, ?_⟩) hHeld ?_
  · (intro W hW; (try dsimp only at hW); go_simp)
  try simp only [Act.put, List.setIfInBounds_toArray, List.set_cons_zero, List.set_cons_succ]
  refine take2 rfl (i := 32) (v := .bool true) (d := 72) rfl rfl (by kernel_rfl) (by kernel_rfl) (by kernel_rfl) (fun _ _ _ h => h) (Or.inl ⟨by rfl, ?_⟩) hHeld ?_
  · (intro W hW; (try dsimp only at hW); go_simp)
  try simp only [Act.put, List.setIfInBounds_toArray, List.set_cons_zero, List.set_cons_succ]
  refine take2 rfl (i := 33) (v := .bool true) (d := 73) rfl rfl (by kernel_rfl) (by kernel_rfl) (by kernel_rfl) (fun _ _ _ h => h) (Or.inl ⟨by rfl, ?_⟩) hHeld ?_
  · (intro W hW; (try dsimp only at hW); go_simp)
  try simp only [Act.put, List.setIfInBounds_toArray, List.set_cons_zero, List.set_cons_succ]
  refine take2 rfl (i := 34) (v := .slice (some ⟨gr, 0, none⟩) 1 cr) (d := 74) rfl rfl (by kernel_rfl) (by kernel_rfl) (by kernel_rfl) (fun _ _ _ h => h) (Or.inl ⟨by rfl, ?_⟩) hHeld ?_
  · (intro W hW; (try dsimp only at hW); go_simp)
  try simp only [Act.put, List.setIfInBounds_toArray, List.set_cons_zero, List.set_cons_succ]
  refine take2 rfl (i := 35) (v := .pointer (some ⟨gr, 0, none⟩)) (d := 75) rfl rfl (by kernel_rfl) (by kernel_rfl) (by kernel_rfl) (fun _ _ _ h => h) (Or.inl ⟨by rfl, ?_⟩) hHeld ?_
  · (intro W hW; (try dsimp only at hW); go_simp)
  try simp only [Act.put, List.setIfInBounds_toArray, List.set_cons_zero, List.set_cons_succ]
  refine take2 rfl (i := 36) (v := .pointer (some ⟨gr, 0, none⟩)) (d := 76) rfl rfl (by kernel_rfl) (by kernel_rfl) (by kernel_rfl) (fun _ _ _ h => h) (Or.inl ⟨by rfl, ?_⟩) hHeld ?_
  · (intro W hW; (try dsimp only at hW); go_simp)
  try simp only [Act.put, List.setIfInBounds_toArray, List.set_cons_zero, List.set_cons_succ]
  refine take2 rfl (i := 37) (v := .string ⟨#[97]⟩) (d := 77) rfl rfl (by kernel_rfl) (by kernel_rfl) (by kernel_rfl) (fun _ _ _ h => h) (Or.inl ⟨by rfl, ?_⟩) hHeld ?_
  · (intro W hW; (try dsimp only at hW); have c0 := celN hW CR.out; go_simp)
  try simp only [Act.put, List.setIfInBounds_toArray, List.set_cons_zero, List.set_cons_succ]
  refine take2 rfl (i := 38) (v := .bool true) (d := 78) rfl rfl (by kernel_rfl) (by kernel_rfl) (by kernel_rfl) (fun _ _ _ h => h) (Or.inl ⟨by rfl, ?_⟩) hHeld ?_
  · (intro W hW; (try dsimp only at hW); go_simp)
  try simp only [Act.put, List.setIfInBounds_toArray, List.set_cons_zero, List.set_cons_succ]
  refine take2 rfl (i := 39) (v := .bool true) (d := 79) rfl rfl (by kernel_rfl) (by kernel_rfl) (by kernel_rfl) (fun _ _ _ h => h) (Or.inl ⟨by rfl, ?_⟩) hHeld ?_
  · (intro W hW; (try dsimp only at hW); go_simp)
  try simp only [Act.put, List.setIfInBounds_toArray, List.set_cons_zero, List.set_cons_succ]
  refine take2 rfl (i := 40) (v := .bool true) (d := 80) rfl rfl (by kernel_rfl) (by kernel_rfl) (by kernel_rfl) (fun _ _ _ h => h) (Or.inl ⟨by rfl, ?_⟩) hHeld ?_
  · (intro W hW; (try dsimp only at hW); go_simp)
  try simp only [Act.put, List.setIfInBounds_toArray, List.set_cons_zero, List.set_cons_succ]
  refine take2 rfl (i := 41) (v := .slice (some ⟨gk, 0, none⟩) 2 ck) (d := 81) rfl rfl (by kernel_rfl) (by kernel_rfl) (by kernel_rfl) (fun _ _ _ h => h) (Or.inl ⟨by rfl, ?_⟩) hHeld ?_
  · (intro W hW; (try dsimp only at hW); go_simp)
  try simp only [Act.put, List.setIfInBounds_toArray, List.set_cons_zero, List.set_cons_succ]
  refine take2 rfl (i := 42) (v := .int .i64 2) (d := 82) rfl rfl (by kernel_rfl) (by kernel_rfl) (by kernel_rfl) (fun _ _ _ h => h) (Or.inl ⟨by rfl, ?_⟩) hHeld ?_
  · (intro W hW; (try dsimp only at hW); go_simp)
  try simp only [Act.put, List.setIfInBounds_toArray, List.set_cons_zero, List.set_cons_succ]
  refine take2 rfl (i := 43) (v := .bool true) (d := 83) rfl rfl (by kernel_rfl) (by kernel_rfl) (by kernel_rfl) (fun _ _ _ h => h) (Or.inl ⟨by rfl, ?_⟩) hHeld ?_
  · (intro W hW; (try dsimp only at hW); go_simp)
  try simp only [Act.put, List.setIfInBounds_toArray, List.set_cons_zero, List.set_cons_succ]
  refine take2 rfl (i := 44) (v := .bool true) (d := 84) rfl rfl (by kernel_rfl) (by kernel_rfl) (by kernel_rfl) (fun _ _ _ h => h) (Or.inl ⟨by rfl, ?_⟩) hHeld ?_
  · (intro W hW; (try dsimp only at hW); go_simp)
  try simp only [Act.put, List.setIfInBounds_toArray, List.set_cons_zero, List.set_cons_succ]
  refine take2 rfl (i := 45) (v := .bool true) (d := 85) rfl rfl (by kernel_rfl) (by kernel_rfl) (by kernel_rfl) (fun _ _ _ h => h) (Or.inl ⟨by rfl, ?_⟩) hHeld ?_
  · (intro W hW; (try dsimp only at hW); go_simp)
  try simp only [Act.put, List.setIfInBounds_toArray, List.set_cons_zero, List.set_cons_succ]
  refine take2 rfl (i := 46) (v := .slice (some ⟨gk, 0, none⟩) 2 ck) (d := 86) rfl rfl (by kernel_rfl) (by kernel_rfl) (by kernel_rfl) (fun _ _ _ h => h) (Or.inl ⟨by rfl, ?_⟩) hHeld ?_
  · (intro W hW; (try dsimp only at hW); go_simp)
  try simp only [Act.put, List.setIfInBounds_toArray, List.set_cons_zero, List.set_cons_succ]
  refine take2 rfl (i := 47) (v := .pointer (some ⟨gk, 1, none⟩)) (d := 87) rfl rfl (by kernel_rfl) (by kernel_rfl) (by kernel_rfl) (fun _ _ _ h => h) (Or.inl ⟨by rfl, ?_⟩) hHeld ?_
  · (intro W hW; (try dsimp only at hW); go_simp)
  try simp only [Act.put, List.setIfInBounds_toArray, List.set_cons_zero, List.set_cons_succ]
  refine take2 rfl (i := 48) (v := .int .i64 3) (d := 88) rfl rfl (by kernel_rfl) (by kernel_rfl) (by kernel_rfl) (fun _ _ _ h => h) (Or.inl ⟨by rfl, ?_⟩) hHeld ?_
  · (intro W hW; (try dsimp only at hW); have c0 := celN hW CK.out; go_simp)
  try simp only [Act.put, List.setIfInBounds_toArray, List.set_cons_zero, List.set_cons_succ]
  refine take2 rfl (i := 49) (v := .bool true) (d := 89) rfl rfl (by kernel_rfl) (by kernel_rfl) (by kernel_rfl) (fun _ _ _ h => h) (Or.inl ⟨by rfl, ?_⟩) hHeld ?_
  · (intro W hW; (try dsimp only at hW); go_simp)
  try simp only [Act.put, List.setIfInBounds_toArray, List.set_cons_zero, List.set_cons_succ]
  refine take2 rfl (i := 50) (v := .bool true) (d := 90) rfl rfl (by kernel_rfl) (by kernel_rfl) (by kernel_rfl) (fun _ _ _ h => h) (Or.inl ⟨by rfl, ?_⟩) hHeld ?_
  · (intro W hW; (try dsimp only at hW); go_simp)
  try simp only [Act.put, List.setIfInBounds_toArray, List.set_cons_zero, List.set_cons_succ]
  refine take2 rfl (i := 51) (v := .bool true) (d := 91) rfl rfl (by kernel_rfl) (by kernel_rfl) (by kernel_rfl) (fun _ _ _ h => h) (Or.inl ⟨by rfl, ?_⟩) hHeld ?_
  · (intro W hW; (try dsimp only at hW); go_simp)
  try simp only [Act.put, List.setIfInBounds_toArray, List.set_cons_zero, List.set_cons_succ]
  refine take2 rfl (i := 52) (v := .agg #[.string t2.op, .string t2.name, .int .i64 (t2.kind : Nat), .int .i64 t2.n, .int .i64 (t2.pl : Nat), .slice (some ⟨gm, 0, none⟩) 2 sc5]) (d := 92) rfl rfl (by kernel_rfl) (by kernel_rfl) (by kernel_rfl) (fun _ _ _ h => h) (Or.inl ⟨by rfl, ?_⟩) hHeld ?_
  · (intro W hW; (try dsimp only at hW); obtain ⟨x0, x1, x2, x3, x4, x5, xz⟩ := X9.out.next hW; go_simp)
  try simp only [Act.put, List.setIfInBounds_toArray, List.set_cons_zero, List.set_cons_succ]
  refine take2 rfl (i := 53) (v := .pointer (some ⟨q6, 5, none⟩)) (d := 93) rfl rfl (by kernel_rfl) (by kernel_rfl) (by kernel_rfl) (fun _ _ _ h => h) (Or.inl ⟨by rfl, ?_⟩) hHeld ?_
  · (intro W hW; (try dsimp only at hW); go_simp)
  try simp only [Act.put, List.setIfInBounds_toArray, List.set_cons_zero, List.set_cons_succ]
  refine take2 rfl (i := 54) (v := .slice (some ⟨gm, 0, none⟩) 2 sc5) (d := 94) rfl rfl (by kernel_rfl) (by kernel_rfl) (by kernel_rfl) (fun _ _ _ h => h) (Or.inl ⟨by rfl, ?_⟩) hHeld ?_
  · (intro W hW; (try dsimp only at hW); have c0 := (X9.out.next hW).c5; go_simp)
  try simp only [Act.put, List.setIfInBounds_toArray, List.set_cons_zero, List.set_cons_succ]
  refine take2 rfl (i := 55) (v := .pointer (some ⟨gm, 6, none⟩)) (d := 95) rfl rfl (by kernel_rfl) (by kernel_rfl) (by kernel_rfl) (fun _ _ _ h => h) (Or.inl ⟨by rfl, ?_⟩) hHeld ?_
  · (intro W hW; (try dsimp only at hW); go_simp)
  try simp only [Act.put, List.setIfInBounds_toArray, List.set_cons_zero, List.set_cons_succ]
  refine take2 rfl (i := 56) (v := .pointer (some ⟨gm, 11, none⟩)) (d := 96) rfl rfl (by kernel_rfl) (by kernel_rfl) (by kernel_rfl) (fun _ _ _ h => h) (Or.inl ⟨by rfl, ?_⟩) hHeld ?_
  · (intro W hW; (try dsimp only at hW); go_simp)
  try simp only [Act.put, List.setIfInBounds_toArray, List.set_cons_zero, List.set_cons_succ]
  refine take2 rfl (i := 57) (v := .slice (some ⟨ge, 0, none⟩) 1 ce) (d := 97) rfl rfl (by kernel_rfl) (by kernel_rfl) (by kernel_rfl) (fun _ _ _ h => h) (Or.inl ⟨by rfl, ?_⟩) hHeld ?_
  · (intro W hW; (try dsimp only at hW); have c0 := celN hW M5.out; go_simp)
  try simp only [Act.put, List.setIfInBounds_toArray, List.set_cons_zero, List.set_cons_succ]
  refine take2 rfl (i := 58) (v := .pointer (some ⟨ge, 0, none⟩)) (d := 98) rfl rfl (by kernel_rfl) (by kernel_rfl) (by kernel_rfl) (fun _ _ _ h => h) (Or.inl ⟨by rfl, ?_⟩) hHeld ?_
  · (intro W hW; (try dsimp only at hW); go_simp)
  try simp only [Act.put, List.setIfInBounds_toArray, List.set_cons_zero, List.set_cons_succ]
  refine take2 rfl (i := 59) (v := .agg #[.string e.op, .string e.name, .int .i64 (e.kind : Nat), .int .i64 e.n, .int .i64 (e.pl : Nat), .slice ea em ec]) (d := 99) rfl rfl (by kernel_rfl) (by kernel_rfl) (by kernel_rfl) (fun _ _ _ h => h) (Or.inl ⟨by rfl, ?_⟩) hHeld ?_
  · (intro W hW; (try dsimp only at hW); have c0 := celN hW E0.out.1; have c1 := celN hW E0.out.2.1; have c2 := celN hW E0.out.2.2.1; have c3 := celN hW E0.out.2.2.2.1; have c4 := celN hW E0.out.2.2.2.2.1; have c5 := celN hW E0.out.2.2.2.2.2; go_simp)
  try simp only [Act.put, List.setIfInBounds_toArray, List.set_cons_zero, List.set_cons_succ]
  have D9 := hid (show Below w9.heap.size w9 w9.drew from (Below.refl _ _).drew)
  have KO := hid (KOf.out w9.drew D9.out)
  generalize w9.drew = wz at *
  refine wpAnyH_ready (rs := [60]) (by kernel_rfl) (by simp) ?_
  refine cons2 rfl rfl (fun K9 hK => ?_)
  go_simp
  refine Calls.mono KO.out ?_
  rintro x wy ⟨rfl, by9⟩
  have BY := hid (nextB D9.out by9)
  clear by9
  go_wp2_with fail
  refine hK.out _ _ BY.out (fun hX => ?_)
  clear hK K9 hHeld
  have hHeld := hX
  clear hX
  try simp only [Act.put, List.setIfInBounds_toArray, List.set_cons_zero, List.set_cons_succ]
  refine take2 rfl (i := 61) (v := .bool true) (d := 101) rfl rfl (by kernel_rfl) (by kernel_rfl) (by kernel_rfl) (fun _ _ _ h => h) (Or.inl ⟨by rfl, ?_⟩) hHeld ?_
  · (intro W hW; (try dsimp only at hW); go_simp)
  try simp only [Act.put, List.setIfInBounds_toArray, List.set_cons_zero, List.set_cons_succ]
  refine take2 rfl (i := 62) (v := .bool true) (d := 102) rfl rfl (by kernel_rfl) (by kernel_rfl) (by kernel_rfl) (fun _ _ _ h => h) (Or.inl ⟨by rfl, ?_⟩) hHeld ?_
  · (intro W hW; (try dsimp only at hW); go_simp)
  try simp only [Act.put, List.setIfInBounds_toArray, List.set_cons_zero, List.set_cons_succ]
  refine take2 rfl (i := 63) (v := .bool true) (d := 0) rfl rfl (by kernel_rfl) (by kernel_rfl) (by kernel_rfl) (fun _ _ _ h => h) (Or.inl ⟨by rfl, ?_⟩) hHeld ?_
  · (intro W hW; (try dsimp only at hW); go_simp)
  try simp only [Act.put, List.setIfInBounds_toArray, List.set_cons_zero, List.set_cons_succ]
  refine wpAnyH_done (by kernel_rfl) ?_ _
  go_wp2_with fail
  go_returns
  exact ⟨rfl, nextB A9.out BY.out⟩
end Go.Proofs.YtonmdlhlkacppaaDoor

namespace Go.Proofs.YtonmdlhlkacppaaDoor
open Go.ChangeShapes Go.WideShapes Go.ChangeAt Go.RowKit
set_option linter.unusedVariables false
set_option linter.unusedSimpArgs false

theorem own : ownKnob Tryd.prog.godebug = none := by kernel_rfl
theorem gTab : Tryd.prog.globalNamed "publican/typ.mixed" = some 0 := by kernel_rfl
theorem gTabType : (Tryd.prog.globals[0]?).map (·.type) = some 117 := by kernel_rfl
theorem cells117 : Tryd.prog.cellsOf 117 = 40 := by kernel_rfl
theorem cells116 : Tryd.prog.cellsOf 116 = 4 := by kernel_rfl
theorem cellsStr : Tryd.prog.cellsOf 9 = 1 := by kernel_rfl
theorem cellsKind : Tryd.prog.cellsOf 23 = 1 := by kernel_rfl
def rowD {H : Type} (x : ByteArray × Int × Int × Int) : DataW H := .agg [.lit (.string x.1.data.toList), .lit (.int .i64 x.2.1), .lit (.int .i64 x.2.2.1), .lit (.int .i64 x.2.2.2)]
def rowL (x : ByteArray × Int × Int × Int) : List Value := [.string x.1, .int .i64 x.2.1, .int .i64 x.2.2.1, .int .i64 x.2.2.2]
theorem str_data {s t : ByteArray} (h : s.data.toList = t.data.toList) : s = t := by
  obtain ⟨x⟩ := s
  obtain ⟨y⟩ := t
  have : x = y := Array.toList_inj.1 h
  rw [this]
theorem fields116 : ∃ f0 f1 f2 f3 : Field, Tryd.prog.underlying 116 = some (.struct #[f0, f1, f2, f3]) ∧ (f0.type = 9 ∧ f0.offset = 0) ∧ (f1.type = 23 ∧ f1.offset = 1) ∧ (f2.type = 23 ∧ f2.offset = 2) ∧ (f3.type = 23 ∧ f3.offset = 3) := ⟨_, _, _, _, Tryd.underlying116, ⟨rfl, rfl⟩, ⟨rfl, rfl⟩, ⟨rfl, rfl⟩, ⟨rfl, rfl⟩⟩
set_option maxRecDepth 100000 in
theorem row_cells {H : Type} {enc : TypeId × Value → H} {w : World} {base : Nat} {sp : Nat → Bool} {held : Bool} {fuel : Nat} {cs : List Value} {y : DataW H × List MemPlace} {x : ByteArray × Int × Int × Int}
    (h : DataW.trod enc Tryd.prog w base sp held fuel 116 cs = some y) (hy : y.1 = rowD x) : cs = rowL x := by
  obtain ⟨f0, f1, f2, f3, hu, ⟨t0, o0⟩, ⟨t1, o1⟩, ⟨t2, o2⟩, ⟨t3, o3⟩⟩ := fields116
  obtain ⟨xs, n, _, rfl, hl, hn, hf⟩ := DataW.trod_struct hu h
  rw [cells116] at hl
  match xs, hn with
  | [y0, y1, y2, y3], _ =>
    have g0 := hf 0 f0 rfl
    have g1 := hf 1 f1 rfl
    have g2 := hf 2 f2 rfl
    have g3 := hf 3 f3 rfl
    rw [t0, o0, cellsStr] at g0
    rw [t1, o1, cellsKind] at g1
    rw [t2, o2, cellsKind] at g2
    rw [t3, o3, cellsKind] at g3
    obtain ⟨s, c0, e0, _⟩ := DataW.trod_string Tryd.underlying9 (x := y0) (by simpa using g0)
    obtain ⟨a1, c1, e1, _⟩ := DataW.trod_int Tryd.underlying23 (x := y1) (by simpa using g1)
    obtain ⟨a2, c2, e2, _⟩ := DataW.trod_int Tryd.underlying23 (x := y2) (by simpa using g2)
    obtain ⟨a3, c3, e3, _⟩ := DataW.trod_int Tryd.underlying23 (x := y3) (by simpa using g3)
    subst e0 e1 e2 e3
    match cs, hl with
    | [v0, v1, v2, v3], _ =>
      simp at c0 c1 c2 c3
      simp [rowD] at hy
      obtain ⟨q0, q1, q2, q3⟩ := hy
      subst c0 c1 c2 c3
      show _ = [Value.string x.1, .int .i64 x.2.1, .int .i64 x.2.2.1, .int .i64 x.2.2.2]
      rw [str_data (congrArg Array.toList q0), q1, q2, q3]
theorem mix_datum {H : Type} : (Rows.laid_publican_typ_mixed : DataW H) = .agg (mixL.map rowD) := rfl
theorem cells_of_mix {H : Type} {enc : TypeId × Value → H} {w : World} {base : Nat} {sp : Nat → Bool} {held : Bool} {fuel : Nat} {cs : List Value} {p : List MemPlace}
    (h : DataW.trod enc Tryd.prog w base sp held fuel 117 cs = some (Rows.laid_publican_typ_mixed, p)) : ∀ i x, mixL[i]? = some x → ∀ k, k < 4 → cs[i * 4 + k]? = (rowL x)[k]? := by
  intro i x hx k hk
  obtain ⟨xs, m, _, e, hl, hn, hf⟩ := DataW.trod_array Tryd.underlying117 h
  have hi : i < 10 := (List.getElem?_eq_some_iff.1 hx).1
  have hm : xs.map (·.1) = mixL.map rowD := by
    have := congrArg Prod.fst e
    rw [mix_datum] at this
    simpa using this.symm
  have g := hf i hi
  rw [cells116] at g
  obtain ⟨y, hy⟩ : ∃ y, xs[i]? = some y := ⟨_, List.getElem?_eq_getElem (by omega)⟩
  have y1 : y.1 = rowD x := by
    have := congrArg (·[i]?) hm
    simp [hy, hx] at this
    exact this
  rw [hy] at g
  have := row_cells g y1
  rw [← this, List.getElem?_take, if_pos hk, List.getElem?_drop]
theorem tabM_of {W : World} (h : laidMetH Tryd.prog [("publican/typ.mixed", Rows.laid_publican_typ_mixed)] W) : TabM W := by
  obtain ⟨ps, ⟨g', t', cs, fuel, p, q, hg', ht', hvar, hd, _, _⟩, _⟩ := (h : laidMet Tryd.prog [("publican/typ.mixed", Rows.laid_publican_typ_mixed)] W)
  obtain rfl := Option.some.inj (gTab.symm.trans hg')
  obtain rfl := Option.some.inj (gTabType.symm.trans ht')
  have R := cells_of_mix hd
  have c : ∀ i, i < 40 → W.cell? ⟨0, i, none⟩ = mixA[i]? := fun i hi => by
    rw [World.var?_cell gTab hvar i]
    have e : cs.toList[i]? = mixA[i]? := by
      match i, hi with
      | 0, _ => exact R 0 _ rfl 0 (by decide)
      | 1, _ => exact R 0 _ rfl 1 (by decide)
      | 2, _ => exact R 0 _ rfl 2 (by decide)
      | 3, _ => exact R 0 _ rfl 3 (by decide)
      | 4, _ => exact R 1 _ rfl 0 (by decide)
      | 5, _ => exact R 1 _ rfl 1 (by decide)
      | 6, _ => exact R 1 _ rfl 2 (by decide)
      | 7, _ => exact R 1 _ rfl 3 (by decide)
      | 8, _ => exact R 2 _ rfl 0 (by decide)
      | 9, _ => exact R 2 _ rfl 1 (by decide)
      | 10, _ => exact R 2 _ rfl 2 (by decide)
      | 11, _ => exact R 2 _ rfl 3 (by decide)
      | 12, _ => exact R 3 _ rfl 0 (by decide)
      | 13, _ => exact R 3 _ rfl 1 (by decide)
      | 14, _ => exact R 3 _ rfl 2 (by decide)
      | 15, _ => exact R 3 _ rfl 3 (by decide)
      | 16, _ => exact R 4 _ rfl 0 (by decide)
      | 17, _ => exact R 4 _ rfl 1 (by decide)
      | 18, _ => exact R 4 _ rfl 2 (by decide)
      | 19, _ => exact R 4 _ rfl 3 (by decide)
      | 20, _ => exact R 5 _ rfl 0 (by decide)
      | 21, _ => exact R 5 _ rfl 1 (by decide)
      | 22, _ => exact R 5 _ rfl 2 (by decide)
      | 23, _ => exact R 5 _ rfl 3 (by decide)
      | 24, _ => exact R 6 _ rfl 0 (by decide)
      | 25, _ => exact R 6 _ rfl 1 (by decide)
      | 26, _ => exact R 6 _ rfl 2 (by decide)
      | 27, _ => exact R 6 _ rfl 3 (by decide)
      | 28, _ => exact R 7 _ rfl 0 (by decide)
      | 29, _ => exact R 7 _ rfl 1 (by decide)
      | 30, _ => exact R 7 _ rfl 2 (by decide)
      | 31, _ => exact R 7 _ rfl 3 (by decide)
      | 32, _ => exact R 8 _ rfl 0 (by decide)
      | 33, _ => exact R 8 _ rfl 1 (by decide)
      | 34, _ => exact R 8 _ rfl 2 (by decide)
      | 35, _ => exact R 8 _ rfl 3 (by decide)
      | 36, _ => exact R 9 _ rfl 0 (by decide)
      | 37, _ => exact R 9 _ rfl 1 (by decide)
      | 38, _ => exact R 9 _ rfl 2 (by decide)
      | 39, _ => exact R 9 _ rfl 3 (by decide)
      | i + 40, hi => omega
    rw [← e, Array.getElem?_toList]
  exact ⟨World.block_lt_of_cell? _ _ (c 0 (by decide)), c⟩
end Go.Proofs.YtonmdlhlkacppaaDoor

