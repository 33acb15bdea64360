/- The walk over the parser's prim. -/
import Derived.Test.YtobolipjgkabhaaDoorSh
import Derived.BigQuiet
import Derived.Deep.RegionHeld3
namespace Go.Proofs.YtobolipjgkabhaaDoor
open Go.RowKit
set_option linter.unusedVariables false
set_option linter.unusedSimpArgs false

theorem Nd.uncons {w : World} {S : Nat → Prop} {v : Value} {t : Tr} (h : Nd w S v [t]) : ∃ (g c : Nat) (sl : Value), v = .slice (some ⟨g, 0, none⟩) 1 c ∧ (NC w g 0 t sl ∧ S g) ∧ Nd w S sl t.kids := by
  cases h with
  | row g c ts sl hs h0 hc hk => exact ⟨g, c, sl 0, rfl, ⟨by simpa using hc 0 t rfl, hs⟩, hk 0 t rfl⟩
theorem open_kids {E : Ex} {deep : Nat} {l : List Wo} {o : Option Nat} {x : ByteArray} {a : Nat} {n : Tr} (h : (formF E deep [⟨#[40]⟩, ⟨#[69, 88, 80, 82]⟩, ⟨#[41]⟩] (op0 x a) l o).t = some n) : ∃ t, n.kids = [t] := by
  have e : formF E deep [⟨#[40]⟩, ⟨#[69, 88, 80, 82]⟩, ⟨#[41]⟩] (op0 x a) l o = if eqB (tw l) ⟨#[40]⟩ then kidR E deep [⟨#[41]⟩] (op0 x a) (E (deep + 1) l.tail o) else ⟨none, l, o⟩ := by
    rw [← formF_expr]
    simp only [formF]
    rw [if_neg (by decide), if_neg (by decide), if_neg (by decide), if_neg (by decide)]
    rfl
  rw [e] at h
  split at h
  · generalize E (deep + 1) l.tail o = r at h
    obtain ⟨t, l', o'⟩ := r
    cases t with
    | none => cases h
    | some t =>
      have h : (formF E deep [⟨#[41]⟩] ((op0 x a).add t) l' o').t = some n := h
      simp only [formF] at h
      rw [if_neg (by decide), if_neg (by decide), if_neg (by decide), if_neg (by decide)] at h
      split at h
      · injection h with h
        subst h
        exact ⟨t, rfl⟩
      · cases h
  · cases h
set_option maxRecDepth 100000 in
set_option maxHeartbeats 8000000 in
theorem pprim_any {w : World} {p b c : Nat} {ws : List Wo} {k : Nat} {o : Option Nat} (deep : Nat) {E : Ex} {N : Nat} (hE : EC E N p b c ws) (hT : KT w) (hN : ws.length - k ≤ N) (hD : deep + (ws.length - k) ≤ 10000) (hg : 1 ≠ p) (h : Ps w p b c ws k o) :
    Calls Tryd.prog 88 #[.pointer (some ⟨p, 0, none⟩), .int .i64 (deep : Nat)] w fun e w' => Rp w w' p b c ws k e (primF E deep (ws.drop k) o) := by
  have rp := h.pl
  have rb := h.bl
  have HB := hid (B6.new w 26 (.string ⟨#[]⟩) (.string ⟨#[]⟩) (.int .i64 0) (.int .i64 0) (.int .i64 0) (.slice none 0 0))
  have HS0 : Hid (Below w.heap.size w (w.alloc (.cells #[.string ⟨#[]⟩, .string ⟨#[]⟩, .int .i64 0, .int .i64 0, .int .i64 0, .slice none 0 0] 26))) := (Below.refl _ _).alloc (Nat.le_refl _) _
  have HP := hid (h.next HS0.out)
  have HG := hid ((Gr.refl w p).below HS0.out)
  have WS := hid (show w.heap.size < (w.alloc (.cells #[.string ⟨#[]⟩, .string ⟨#[]⟩, .int .i64 0, .int .i64 0, .int .i64 0, .slice none 0 0] 26)).heap.size from by simp)
  have HT := hid (hT.next HS0.out)
  have hd : (deep : Int) ≤ 10000 := by omega
  obtain ⟨x, cu⟩ := h.cur
  have XA := hid cu.at_
  have HM := hid (fun q => h.more cu.at_ q)
  obtain ⟨R, hR⟩ : ∃ R, primF E deep (ws.drop k) o = R := ⟨_, rfl⟩
  have KX := hid (show kw (ws.drop k) = x.k from by rw [cu.dr]; rfl)
  have TX := hid (show tw (ws.drop k) = x.t from by rw [cu.dr]; rfl)
  have AX := hid (show aw (ws.drop k) = x.a from by rw [cu.dr]; rfl)
  have RX := hid (show R = if x.k = 1 then ⟨some (.nd ⟨#[110, 97, 109, 101]⟩ x.t 0 0 (aw (ws.drop k)) []), ws.drop (k + 1), o⟩
    else if eqB x.t ⟨#[40]⟩ = true then kidF (formF E deep [⟨#[40]⟩, ⟨#[69, 88, 80, 82]⟩, ⟨#[41]⟩] (op0 ⟨#[]⟩ (aw (ws.drop k))) (ws.drop k) o)
    else if (eqB x.t ⟨#[109, 105, 110]⟩ || eqB x.t ⟨#[109, 97, 120]⟩) = true then formF E deep [x.t, ⟨#[40]⟩, ⟨#[69, 88, 80, 82]⟩, ⟨#[44]⟩, ⟨#[69, 88, 80, 82]⟩, ⟨#[41]⟩] (op0 x.t (aw (ws.drop k))) (ws.drop k) o
    else if eqB x.t ⟨#[108, 101, 110]⟩ = true then formF E deep [⟨#[108, 101, 110]⟩, ⟨#[40]⟩, ⟨#[69, 88, 80, 82]⟩, ⟨#[41]⟩] (op0 ⟨#[108, 101, 110]⟩ (aw (ws.drop k))) (ws.drop k) o
    else if eqB x.t ⟨#[97, 116]⟩ = true then formF E deep [⟨#[97, 116]⟩, ⟨#[40]⟩, ⟨#[78, 65, 77, 69]⟩, ⟨#[44]⟩, ⟨#[69, 88, 80, 82]⟩, ⟨#[41]⟩] (op0 ⟨#[97, 116]⟩ (aw (ws.drop k))) (ws.drop k) o
    else if eqB x.t ⟨#[115, 117, 109]⟩ = true then formF E deep [⟨#[115, 117, 109]⟩, ⟨#[40]⟩, ⟨#[78, 65, 77, 69]⟩, ⟨#[105, 110]⟩, ⟨#[69, 88, 80, 82]⟩, ⟨#[58]⟩, ⟨#[69, 88, 80, 82]⟩, ⟨#[41]⟩] (op0 ⟨#[115, 117, 109]⟩ (aw (ws.drop k))) (ws.drop k) o
    else litR (ws.drop k) o from by rw [← hR, ← KX.out, ← TX.out, ← List.tail_drop]; rfl)
  rw [hR]
  have l1 : (k : Int) < (ws.length : Int) := by have := h.lt; omega
  have l2 : ws.length ≤ 9000 := h.len
  have lk : (k : Int) ≤ 9000 := by omega
  have c0 := HP.out.c0
  have c1 := HP.out.c1
  have d0 := HP.out.w0 _ _ XA.out
  have d1 := HP.out.w1 _ _ XA.out
  have d2 := HP.out.w2 _ _ XA.out
  have d3 := HP.out.w3 _ _ XA.out
  clear h hT hR cu KX TX
  obtain ⟨xk, xt, xn, xa⟩ := x
  simp only at RX XA d0 d1 d2 d3 HM AX
  go_enter Tryd.func88, Tryd.ntmps88
  go_upto_region 1 with fail
  generalize World.alloc w _ = w1 at *
  refine wp_region_held_drew (S := (fun W => W.cell? ⟨p, 0, none⟩ = some (.slice (some ⟨b, 0, none⟩) ws.length c) ∧ W.cell? ⟨p, 1, none⟩ = some (.int .i64 (k : Nat)) ∧ W.cell? ⟨b, k * 4, none⟩ = some (.int .i64 (xk : Nat)) ∧ W.cell? ⟨b, k * 4 + 1, none⟩ = some (.string xt) ∧ W.cell? ⟨b, k * 4 + 2, none⟩ = some (.int .i64 (xn : Nat)) ∧ W.cell? ⟨b, k * 4 + 3, none⟩ = some (.int .i64 (xa : Nat)))) (by kernel_rfl) ⟨c0, c1, d0, d1, d2, d3⟩ (fun hHeld => ?_)
  have HP0 := hid (show Ps w1.drew p b c ws k o from HP.out.next (Below.refl _ _).drew)
  have HG0 := hid (show Gr w w1.drew p from HG.out.drew)
  clear HP HG
  have HBz := hid (HB.out.next (Below.refl w1.heap.size w1).drew)
  clear HB
  have HTz := hid (HT.out.next (Below.refl w1.heap.size w1).drew)
  clear HT
  replace WS := hid (show w.heap.size < w1.drew.heap.size from WS.out)
  generalize w1.drew = wz at *
  refine take2 rfl (i := 0) (v := .pointer (some ⟨p, 0, none⟩)) (d := 9) rfl rfl (by kernel_rfl) (by kernel_rfl) (by kernel_rfl) (fun _ _ _ h => h) (Or.inl ⟨by rfl, ?_⟩) hHeld ?_
  · (intro W hW; (try dsimp only at hW); go_simp)
  try simp only [Act.put, List.setIfInBounds_toArray, List.set_cons_zero, List.set_cons_succ]
  refine take2 rfl (i := 1) (v := .pointer (some ⟨p, 0, none⟩)) (d := 10) rfl rfl (by kernel_rfl) (by kernel_rfl) (by kernel_rfl) (fun _ _ _ h => h) (Or.inl ⟨by rfl, ?_⟩) hHeld ?_
  · (intro W hW; (try dsimp only at hW); go_simp)
  try simp only [Act.put, List.setIfInBounds_toArray, List.set_cons_zero, List.set_cons_succ]
  refine take2 rfl (i := 2) (v := .pointer (some ⟨p, 0, none⟩)) (d := 11) rfl rfl (by kernel_rfl) (by kernel_rfl) (by kernel_rfl) (fun _ _ _ h => h) (Or.inl ⟨by rfl, ?_⟩) hHeld ?_
  · (intro W hW; (try dsimp only at hW); go_simp)
  try simp only [Act.put, List.setIfInBounds_toArray, List.set_cons_zero, List.set_cons_succ]
  refine take2 rfl (i := 3) (v := .slice (some ⟨b, 0, none⟩) ws.length c) (d := 12) rfl rfl (by kernel_rfl) (by kernel_rfl) (by kernel_rfl) (fun _ _ _ h => h) (Or.inl ⟨by rfl, ?_⟩) hHeld ?_
  · (intro W hW; (try dsimp only at hW); go_simp)
  try simp only [Act.put, List.setIfInBounds_toArray, List.set_cons_zero, List.set_cons_succ]
  refine take2 rfl (i := 4) (v := .pointer (some ⟨p, 0, none⟩)) (d := 13) rfl rfl (by kernel_rfl) (by kernel_rfl) (by kernel_rfl) (fun _ _ _ h => h) (Or.inl ⟨by rfl, ?_⟩) hHeld ?_
  · (intro W hW; (try dsimp only at hW); go_simp)
  try simp only [Act.put, List.setIfInBounds_toArray, List.set_cons_zero, List.set_cons_succ]
  refine take2 rfl (i := 5) (v := .pointer (some ⟨p, 0, none⟩)) (d := 14) rfl rfl (by kernel_rfl) (by kernel_rfl) (by kernel_rfl) (fun _ _ _ h => h) (Or.inl ⟨by rfl, ?_⟩) hHeld ?_
  · (intro W hW; (try dsimp only at hW); go_simp)
  try simp only [Act.put, List.setIfInBounds_toArray, List.set_cons_zero, List.set_cons_succ]
  refine take2 rfl (i := 6) (v := .pointer (some ⟨p, 1, none⟩)) (d := 15) rfl rfl (by kernel_rfl) (by kernel_rfl) (by kernel_rfl) (fun _ _ _ h => h) (Or.inl ⟨by rfl, ?_⟩) hHeld ?_
  · (intro W hW; (try dsimp only at hW); go_simp)
  try simp only [Act.put, List.setIfInBounds_toArray, List.set_cons_zero, List.set_cons_succ]
  refine take2 rfl (i := 7) (v := .int .i64 (k : Nat)) (d := 16) rfl rfl (by kernel_rfl) (by kernel_rfl) (by kernel_rfl) (fun _ _ _ h => h) (Or.inl ⟨by rfl, ?_⟩) hHeld ?_
  · (intro W hW; (try dsimp only at hW); go_simp)
  try simp only [Act.put, List.setIfInBounds_toArray, List.set_cons_zero, List.set_cons_succ]
  refine take2 rfl (i := 8) (v := .pointer (some ⟨b, k * 4, none⟩)) (d := 17) rfl rfl (by kernel_rfl) (by kernel_rfl) (by kernel_rfl) (fun _ _ _ h => h) (Or.inl ⟨by rfl, ?_⟩) hHeld ?_
  · (intro W hW; (try dsimp only at hW); go_simp)
  try simp only [Act.put, List.setIfInBounds_toArray, List.set_cons_zero, List.set_cons_succ]
  refine take2 rfl (i := 9) (v := .agg #[.int .i64 (xk : Nat), .string xt, .int .i64 (xn : Nat), .int .i64 (xa : Nat)]) (d := 18) rfl rfl (by kernel_rfl) (by kernel_rfl) (by kernel_rfl) (fun _ _ _ h => h) (Or.inl ⟨by rfl, ?_⟩) hHeld ?_
  · (intro W hW; (try dsimp only at hW); go_simp)
  try simp only [Act.put, List.setIfInBounds_toArray, List.set_cons_zero, List.set_cons_succ]
  refine wpAnyH_ready (rs := [10]) (by kernel_rfl) (by simp) ?_
  refine cons2 rfl rfl (fun K9 hK => ?_)
  go_simp
  have BL := hid ((Below.refl wz.heap.size wz).alloc (Nat.le_refl _) (.cells #[.int .i64 0, .string ⟨#[]⟩, .int .i64 0, .int .i64 0] 41))
  refine hK.out _ _ (by have H := HP0.out.next BL.out; obtain ⟨q0, q1, q2, q3, q4, q5⟩ := hHeld; exact ⟨H.c0, H.c1, H.w0 _ _ XA.out, H.w1 _ _ XA.out, H.w2 _ _ XA.out, H.w3 _ _ XA.out⟩) (fun hX => ?_)
  clear hK K9 hHeld
  have hHeld := hX
  clear hX
  try simp only [Act.put, List.setIfInBounds_toArray, List.set_cons_zero, List.set_cons_succ]
  refine wpAnyH_ready (rs := [11]) (by kernel_rfl) (by simp) ?_
  refine cons2 rfl rfl (fun K9 hK => ?_)
  go_simp
  have HX := hid (X4.new wz 41 (.int .i64 (xk : Nat)) (.string xt) (.int .i64 (xn : Nat)) (.int .i64 (xa : Nat)))
  have HP := hid (HP0.out.next HX.out.bl)
  have HG := hid (HG0.out.below HX.out.bl)
  have HB := hid (HBz.out.next HX.out.bl)
  clear HBz
  have HT := hid (HTz.out.next HX.out.bl)
  clear HTz
  refine hK.out _ _ (⟨HP.out.c0, HP.out.c1, HP.out.w0 _ _ XA.out, HP.out.w1 _ _ XA.out, HP.out.w2 _ _ XA.out, HP.out.w3 _ _ XA.out⟩) (fun hX => ?_)
  clear hK K9 hHeld
  have hHeld := hX
  clear hX
  try simp only [Act.put, List.setIfInBounds_toArray, List.set_cons_zero, List.set_cons_succ]
  replace WS := hid (Nat.lt_of_lt_of_le WS.out HX.out.bl.size)
  clear hHeld BL HG0
  refine wpAnyH_done (by kernel_rfl) ?_ _
  generalize World.alloc wz _ = w2 at *
  have x0 := HX.out.c0
  have x1 := HX.out.c1
  have x2 := HX.out.c2
  have x3 := HX.out.c3
  have hg0 : wz.heap.size < w2.heap.size := HX.out.lt
  have hgp : wz.heap.size ≠ p := by have := HP0.out.pl; omega
  generalize wz.heap.size = g at *

  clear c0 c1 d0 d1 d2 d3 x2 HP0 HX
  have pl2 := HP.out.pl
  by_cases q1 : xk = 1
  · subst q1
    have LR := hid (show R = ⟨some (.nd ⟨#[110, 97, 109, 101]⟩ xt 0 0 xa []), ws.drop (k + 1), o⟩ from by rw [RX.out, if_pos rfl, AX.out])
    have p1 := HP.out.c1
    have pz := HP.out.fz 1
    have HP3 := hid (HP.out.step (HM.out (Or.inl (by decide))))
    have HG3 := hid (HG.out.set (i := 1) (.int .i64 ((k : Int) + 1)))
    have HB3 := hid (HB.out.put (i := 1) (q := p) (by omega) (.int .i64 ((k : Int) + 1)))
    have y1 : (w2.setCell ⟨p, 1, none⟩ (.int .i64 ((k : Int) + 1))).cell? ⟨g, 1, none⟩ = some (.string xt) := (cell_ne (by omega)).trans x1
    have y3 : (w2.setCell ⟨p, 1, none⟩ (.int .i64 ((k : Int) + 1))).cell? ⟨g, 3, none⟩ = some (.int .i64 (xa : Nat)) := (cell_ne (by omega)).trans x3
    go_upto_region 4 with fail
    generalize World.setCell w2 _ _ = w3 at *
    obtain ⟨r0, r1, r2, r3, r4, r5, rz⟩ := HB3.out
    have BF := hid (HB3.out.sets (.string ⟨#[110, 97, 109, 101]⟩) (.string xt) (.int .i64 0) (.int .i64 0) (.int .i64 (xa : Nat)) (.slice none 0 0))
    have PF := hid (HP3.out.put6 (q := w.heap.size) (by omega) (by omega) (.string ⟨#[110, 97, 109, 101]⟩) (.string xt) (.int .i64 0) (.int .i64 0) (.int .i64 (xa : Nat)) (.slice none 0 0))
    have GF := hid (HG3.out.put6 (q := w.heap.size) (by omega) (.string ⟨#[110, 97, 109, 101]⟩) (.string xt) (.int .i64 0) (.int .i64 0) (.int .i64 (xa : Nat)) (.slice none 0 0))
    go_wp2_with fail
    generalize World.setCell _ ⟨w.heap.size, 5, none⟩ _ = w6 at *
    obtain ⟨f0, f1, f2, f3, f4, f5, _⟩ := BF.out
    exact bodyPost_ret (v := .tuple #[.agg #[.string ⟨#[110, 97, 109, 101]⟩, .string xt, .int .i64 0, .int .i64 0, .int .i64 (xa : Nat), .slice none 0 0], .bool true]) (by simp [results, Tryd.results88, go_sem, f0, f1, f2, f3, f4, f5]) rfl (Rp.yes (Nat.lt_succ_self k) LR.out GF.out PF.out (Nv.leaf ⟨#[110, 97, 109, 101]⟩ xt 0 0 xa))
  · have q1' : (xk : Int) ≠ 1 := by omega
    cases e40 : eqB xt ⟨#[40]⟩
    · cases emin : eqB xt ⟨#[109, 105, 110]⟩
      · cases emax : eqB xt ⟨#[109, 97, 120]⟩
        · cases elen : eqB xt ⟨#[108, 101, 110]⟩
          · cases eat : eqB xt ⟨#[97, 116]⟩
            · cases esum : eqB xt ⟨#[115, 117, 109]⟩
              · have u40 : (xt.toList == [40]) = false := (eqL xt [40]).trans e40
                have umin : (xt.toList == [109, 105, 110]) = false := (eqL xt [109, 105, 110]).trans emin
                have umax : (xt.toList == [109, 97, 120]) = false := (eqL xt [109, 97, 120]).trans emax
                have ulen : (xt.toList == [108, 101, 110]) = false := (eqL xt [108, 101, 110]).trans elen
                have uat : (xt.toList == [97, 116]) = false := (eqL xt [97, 116]).trans eat
                have usum : (xt.toList == [115, 117, 109]) = false := (eqL xt [115, 117, 109]).trans esum
                have RX' := hid (show R = litR (ws.drop k) o from by rw [RX.out, if_neg q1, if_neg (by rw [e40]; decide), if_neg (by rw [emin, emax]; decide), if_neg (by rw [elen]; decide), if_neg (by rw [eat]; decide), if_neg (by rw [esum]; decide)])
                have RX'' := RX'.out
                subst RX''
                go_upto_region 20 with fail
                have HC := hid (plit_any HP.out)
                go_wp2_with (go_at_call 60; with_reducible refine Calls.mono (HC.out) ?_; rintro e w5 h5; obtain ⟨g5, k', t, sa, sm, sc, ok, hk, hk2, hl, p5, rfl, hok, nv, ht⟩ := h5.parts; have HK2 := hid hk2; clear hk2; have HR5 := hid (HB.out.gr g5 (by omega)); have HP5 := hid p5; have HG5 := hid (HG.out.trans g5); have HN5 := hid nv; have HT5 := hid ht; have HL5 := hid hl; have HO5 := hid hok; clear h5 g5 p5 nv ht hl hok; obtain ⟨r0, r1, r2, r3, r4, r5, rz⟩ := HR5.out; have BF := hid (HR5.out.sets (.string t.op) (.string t.name) (.int .i64 (t.kind : Nat)) (.int .i64 t.n) (.int .i64 (t.pl : Nat)) (.slice sa sm sc)); have PF := hid (HP5.out.put6 (q := w.heap.size) (by omega) (by omega) (.string t.op) (.string t.name) (.int .i64 (t.kind : Nat)) (.int .i64 t.n) (.int .i64 (t.pl : Nat)) (.slice sa sm sc)); have GF := hid (HG5.out.put6 (q := w.heap.size) (by omega) (.string t.op) (.string t.name) (.int .i64 (t.kind : Nat)) (.int .i64 t.n) (.int .i64 (t.pl : Nat)) (.slice sa sm sc)); have NF := hid (HN5.out.put6w (q := w.heap.size) (m := w.heap.size) (by have := WS.out; omega) (.string t.op) (.string t.name) (.int .i64 (t.kind : Nat)) (.int .i64 t.n) (.int .i64 (t.pl : Nat)) (.slice sa sm sc)))
                generalize World.setCell _ ⟨w.heap.size, 5, none⟩ _ = w6 at *
                obtain ⟨f0, f1, f2, f3, f4, f5, _⟩ := BF.out
                exact bodyPost_ret (v := .tuple #[.agg #[.string t.op, .string t.name, .int .i64 (t.kind : Nat), .int .i64 t.n, .int .i64 (t.pl : Nat), .slice sa sm sc], .bool ok]) (by simp [results, Tryd.results88, go_sem, f0, f1, f2, f3, f4, f5]) rfl (⟨GF.out, k', _, hk, fun e => HK2.out (by rw [← HO5.out]; exact e), HL5.out, PF.out, congrArg (fun x => Ending.returned (.tuple #[.agg #[.string t.op, .string t.name, .int .i64 (t.kind : Nat), .int .i64 t.n, .int .i64 (t.pl : Nat), .slice sa sm sc], .bool x])) HO5.out.symm, t, ⟨_, rfl, NF.out⟩, HT5.out⟩)
              · have u40 : (xt.toList == [40]) = false := (eqL xt [40]).trans e40
                have umin : (xt.toList == [109, 105, 110]) = false := (eqL xt [109, 105, 110]).trans emin
                have umax : (xt.toList == [109, 97, 120]) = false := (eqL xt [109, 97, 120]).trans emax
                have ulen : (xt.toList == [108, 101, 110]) = false := (eqL xt [108, 101, 110]).trans elen
                have uat : (xt.toList == [97, 116]) = false := (eqL xt [97, 116]).trans eat
                have sx : xt = ⟨#[115, 117, 109]⟩ := eqB_eq esum
                subst sx
                have RX' := hid (show R = formF E deep [⟨#[115, 117, 109]⟩, ⟨#[40]⟩, ⟨#[78, 65, 77, 69]⟩, ⟨#[105, 110]⟩, ⟨#[69, 88, 80, 82]⟩, ⟨#[58]⟩, ⟨#[69, 88, 80, 82]⟩, ⟨#[41]⟩] (op0 ⟨#[115, 117, 109]⟩ (aw (ws.drop k))) (ws.drop k) o from by rw [RX.out, if_neg q1, if_neg (by rw [e40]; decide), if_neg (by rw [emin, emax]; decide), if_neg (by rw [elen]; decide), if_neg (by rw [eat]; decide), if_pos esum])
                have RX'' := RX'.out
                subst RX''
                go_upto_region 19 with fail
                have HS2 := hid (show Below w2.heap.size w2 (w2.alloc (.cells #[.string ⟨#[115, 117, 109]⟩, .string ⟨#[40]⟩, .string ⟨#[78, 65, 77, 69]⟩, .string ⟨#[105, 110]⟩, .string ⟨#[69, 88, 80, 82]⟩, .string ⟨#[58]⟩, .string ⟨#[69, 88, 80, 82]⟩, .string ⟨#[41]⟩] 9)) from (Below.refl _ _).alloc (Nat.le_refl _) _)
                have HC := hid (show Calls Tryd.prog 30 #[.pointer (some ⟨p, 0, none⟩), .string ⟨#[115, 117, 109]⟩, .int .i64 (deep : Nat), .slice (some ⟨w2.heap.size, 0, none⟩) 8 8] (w2.alloc (.cells #[.string ⟨#[115, 117, 109]⟩, .string ⟨#[40]⟩, .string ⟨#[78, 65, 77, 69]⟩, .string ⟨#[105, 110]⟩, .string ⟨#[69, 88, 80, 82]⟩, .string ⟨#[58]⟩, .string ⟨#[69, 88, 80, 82]⟩, .string ⟨#[41]⟩] 9)) (fun e w' => Rp (w2.alloc (.cells #[.string ⟨#[115, 117, 109]⟩, .string ⟨#[40]⟩, .string ⟨#[78, 65, 77, 69]⟩, .string ⟨#[105, 110]⟩, .string ⟨#[69, 88, 80, 82]⟩, .string ⟨#[58]⟩, .string ⟨#[69, 88, 80, 82]⟩, .string ⟨#[41]⟩] 9)) w' p b c ws k e (formF E deep [⟨#[115, 117, 109]⟩, ⟨#[40]⟩, ⟨#[78, 65, 77, 69]⟩, ⟨#[105, 110]⟩, ⟨#[69, 88, 80, 82]⟩, ⟨#[58]⟩, ⟨#[69, 88, 80, 82]⟩, ⟨#[41]⟩] (op0 ⟨#[115, 117, 109]⟩ (aw (ws.drop k))) (ws.drop k) o)) from pform_any ⟨#[115, 117, 109]⟩ deep [⟨#[115, 117, 109]⟩, ⟨#[40]⟩, ⟨#[78, 65, 77, 69]⟩, ⟨#[105, 110]⟩, ⟨#[69, 88, 80, 82]⟩, ⟨#[58]⟩, ⟨#[69, 88, 80, 82]⟩, ⟨#[41]⟩] w2.heap.size hE (HT.out.next HS2.out) hN hD (pa_new w2 [⟨#[115, 117, 109]⟩, ⟨#[40]⟩, ⟨#[78, 65, 77, 69]⟩, ⟨#[105, 110]⟩, ⟨#[69, 88, 80, 82]⟩, ⟨#[58]⟩, ⟨#[69, 88, 80, 82]⟩, ⟨#[41]⟩]) (by have := HP.out.pl; omega) (by decide) ⟨_, rfl, by decide⟩ hg (ne_all (by decide)) (HP.out.next HS2.out))
                have HB2 := hid (HB.out.next HS2.out)
                have HG2 := hid (HG.out.below HS2.out)
                have WS2 := hid (Nat.lt_of_lt_of_le WS.out HS2.out.size)
                go_wp2_with (go_at_call 30; with_reducible refine Calls.mono (HC.out) ?_; rintro e w5 h5; obtain ⟨g5, k', t, sa, sm, sc, ok, hk, hk2, hl, p5, rfl, hok, nv, ht⟩ := h5.parts; have HK2 := hid hk2; clear hk2; have HR5 := hid (HB2.out.gr g5 (by omega)); have HP5 := hid p5; have HG5 := hid (HG2.out.trans g5); have HN5 := hid nv; have HT5 := hid ht; have HL5 := hid hl; have HO5 := hid hok; clear h5 g5 p5 nv ht hl hok; obtain ⟨r0, r1, r2, r3, r4, r5, rz⟩ := HR5.out; have BF := hid (HR5.out.sets (.string t.op) (.string t.name) (.int .i64 (t.kind : Nat)) (.int .i64 t.n) (.int .i64 (t.pl : Nat)) (.slice sa sm sc)); have PF := hid (HP5.out.put6 (q := w.heap.size) (by omega) (by omega) (.string t.op) (.string t.name) (.int .i64 (t.kind : Nat)) (.int .i64 t.n) (.int .i64 (t.pl : Nat)) (.slice sa sm sc)); have GF := hid (HG5.out.put6 (q := w.heap.size) (by omega) (.string t.op) (.string t.name) (.int .i64 (t.kind : Nat)) (.int .i64 t.n) (.int .i64 (t.pl : Nat)) (.slice sa sm sc)); have NF := hid (HN5.out.put6w (q := w.heap.size) (m := w.heap.size) (by have := WS2.out; omega) (.string t.op) (.string t.name) (.int .i64 (t.kind : Nat)) (.int .i64 t.n) (.int .i64 (t.pl : Nat)) (.slice sa sm sc)))
                generalize World.setCell _ ⟨w.heap.size, 5, none⟩ _ = w6 at *
                obtain ⟨f0, f1, f2, f3, f4, f5, _⟩ := BF.out
                exact bodyPost_ret (v := .tuple #[.agg #[.string t.op, .string t.name, .int .i64 (t.kind : Nat), .int .i64 t.n, .int .i64 (t.pl : Nat), .slice sa sm sc], .bool ok]) (by simp [results, Tryd.results88, go_sem, f0, f1, f2, f3, f4, f5]) rfl (⟨GF.out, k', _, hk, fun e => HK2.out (by rw [← HO5.out]; exact e), HL5.out, PF.out, congrArg (fun x => Ending.returned (.tuple #[.agg #[.string t.op, .string t.name, .int .i64 (t.kind : Nat), .int .i64 t.n, .int .i64 (t.pl : Nat), .slice sa sm sc], .bool x])) HO5.out.symm, t, ⟨_, rfl, NF.out⟩, HT5.out⟩)
            · have u40 : (xt.toList == [40]) = false := (eqL xt [40]).trans e40
              have umin : (xt.toList == [109, 105, 110]) = false := (eqL xt [109, 105, 110]).trans emin
              have umax : (xt.toList == [109, 97, 120]) = false := (eqL xt [109, 97, 120]).trans emax
              have ulen : (xt.toList == [108, 101, 110]) = false := (eqL xt [108, 101, 110]).trans elen
              have sx : xt = ⟨#[97, 116]⟩ := eqB_eq eat
              subst sx
              have RX' := hid (show R = formF E deep [⟨#[97, 116]⟩, ⟨#[40]⟩, ⟨#[78, 65, 77, 69]⟩, ⟨#[44]⟩, ⟨#[69, 88, 80, 82]⟩, ⟨#[41]⟩] (op0 ⟨#[97, 116]⟩ (aw (ws.drop k))) (ws.drop k) o from by rw [RX.out, if_neg q1, if_neg (by rw [e40]; decide), if_neg (by rw [emin, emax]; decide), if_neg (by rw [elen]; decide), if_pos eat])
              have RX'' := RX'.out
              subst RX''
              go_upto_region 17 with fail
              have HS2 := hid (show Below w2.heap.size w2 (w2.alloc (.cells #[.string ⟨#[97, 116]⟩, .string ⟨#[40]⟩, .string ⟨#[78, 65, 77, 69]⟩, .string ⟨#[44]⟩, .string ⟨#[69, 88, 80, 82]⟩, .string ⟨#[41]⟩] 9)) from (Below.refl _ _).alloc (Nat.le_refl _) _)
              have HC := hid (show Calls Tryd.prog 30 #[.pointer (some ⟨p, 0, none⟩), .string ⟨#[97, 116]⟩, .int .i64 (deep : Nat), .slice (some ⟨w2.heap.size, 0, none⟩) 6 6] (w2.alloc (.cells #[.string ⟨#[97, 116]⟩, .string ⟨#[40]⟩, .string ⟨#[78, 65, 77, 69]⟩, .string ⟨#[44]⟩, .string ⟨#[69, 88, 80, 82]⟩, .string ⟨#[41]⟩] 9)) (fun e w' => Rp (w2.alloc (.cells #[.string ⟨#[97, 116]⟩, .string ⟨#[40]⟩, .string ⟨#[78, 65, 77, 69]⟩, .string ⟨#[44]⟩, .string ⟨#[69, 88, 80, 82]⟩, .string ⟨#[41]⟩] 9)) w' p b c ws k e (formF E deep [⟨#[97, 116]⟩, ⟨#[40]⟩, ⟨#[78, 65, 77, 69]⟩, ⟨#[44]⟩, ⟨#[69, 88, 80, 82]⟩, ⟨#[41]⟩] (op0 ⟨#[97, 116]⟩ (aw (ws.drop k))) (ws.drop k) o)) from pform_any ⟨#[97, 116]⟩ deep [⟨#[97, 116]⟩, ⟨#[40]⟩, ⟨#[78, 65, 77, 69]⟩, ⟨#[44]⟩, ⟨#[69, 88, 80, 82]⟩, ⟨#[41]⟩] w2.heap.size hE (HT.out.next HS2.out) hN hD (pa_new w2 [⟨#[97, 116]⟩, ⟨#[40]⟩, ⟨#[78, 65, 77, 69]⟩, ⟨#[44]⟩, ⟨#[69, 88, 80, 82]⟩, ⟨#[41]⟩]) (by have := HP.out.pl; omega) (by decide) ⟨_, rfl, by decide⟩ hg (ne_all (by decide)) (HP.out.next HS2.out))
              have HB2 := hid (HB.out.next HS2.out)
              have HG2 := hid (HG.out.below HS2.out)
              have WS2 := hid (Nat.lt_of_lt_of_le WS.out HS2.out.size)
              go_wp2_with (go_at_call 30; with_reducible refine Calls.mono (HC.out) ?_; rintro e w5 h5; obtain ⟨g5, k', t, sa, sm, sc, ok, hk, hk2, hl, p5, rfl, hok, nv, ht⟩ := h5.parts; have HK2 := hid hk2; clear hk2; have HR5 := hid (HB2.out.gr g5 (by omega)); have HP5 := hid p5; have HG5 := hid (HG2.out.trans g5); have HN5 := hid nv; have HT5 := hid ht; have HL5 := hid hl; have HO5 := hid hok; clear h5 g5 p5 nv ht hl hok; obtain ⟨r0, r1, r2, r3, r4, r5, rz⟩ := HR5.out; have BF := hid (HR5.out.sets (.string t.op) (.string t.name) (.int .i64 (t.kind : Nat)) (.int .i64 t.n) (.int .i64 (t.pl : Nat)) (.slice sa sm sc)); have PF := hid (HP5.out.put6 (q := w.heap.size) (by omega) (by omega) (.string t.op) (.string t.name) (.int .i64 (t.kind : Nat)) (.int .i64 t.n) (.int .i64 (t.pl : Nat)) (.slice sa sm sc)); have GF := hid (HG5.out.put6 (q := w.heap.size) (by omega) (.string t.op) (.string t.name) (.int .i64 (t.kind : Nat)) (.int .i64 t.n) (.int .i64 (t.pl : Nat)) (.slice sa sm sc)); have NF := hid (HN5.out.put6w (q := w.heap.size) (m := w.heap.size) (by have := WS2.out; omega) (.string t.op) (.string t.name) (.int .i64 (t.kind : Nat)) (.int .i64 t.n) (.int .i64 (t.pl : Nat)) (.slice sa sm sc)))
              generalize World.setCell _ ⟨w.heap.size, 5, none⟩ _ = w6 at *
              obtain ⟨f0, f1, f2, f3, f4, f5, _⟩ := BF.out
              exact bodyPost_ret (v := .tuple #[.agg #[.string t.op, .string t.name, .int .i64 (t.kind : Nat), .int .i64 t.n, .int .i64 (t.pl : Nat), .slice sa sm sc], .bool ok]) (by simp [results, Tryd.results88, go_sem, f0, f1, f2, f3, f4, f5]) rfl (⟨GF.out, k', _, hk, fun e => HK2.out (by rw [← HO5.out]; exact e), HL5.out, PF.out, congrArg (fun x => Ending.returned (.tuple #[.agg #[.string t.op, .string t.name, .int .i64 (t.kind : Nat), .int .i64 t.n, .int .i64 (t.pl : Nat), .slice sa sm sc], .bool x])) HO5.out.symm, t, ⟨_, rfl, NF.out⟩, HT5.out⟩)
          · have u40 : (xt.toList == [40]) = false := (eqL xt [40]).trans e40
            have umin : (xt.toList == [109, 105, 110]) = false := (eqL xt [109, 105, 110]).trans emin
            have umax : (xt.toList == [109, 97, 120]) = false := (eqL xt [109, 97, 120]).trans emax
            have sx : xt = ⟨#[108, 101, 110]⟩ := eqB_eq elen
            subst sx
            have RX' := hid (show R = formF E deep [⟨#[108, 101, 110]⟩, ⟨#[40]⟩, ⟨#[69, 88, 80, 82]⟩, ⟨#[41]⟩] (op0 ⟨#[108, 101, 110]⟩ (aw (ws.drop k))) (ws.drop k) o from by rw [RX.out, if_neg q1, if_neg (by rw [e40]; decide), if_neg (by rw [emin, emax]; decide), if_pos elen])
            have RX'' := RX'.out
            subst RX''
            go_upto_region 15 with fail
            have HS2 := hid (show Below w2.heap.size w2 (w2.alloc (.cells #[.string ⟨#[108, 101, 110]⟩, .string ⟨#[40]⟩, .string ⟨#[69, 88, 80, 82]⟩, .string ⟨#[41]⟩] 9)) from (Below.refl _ _).alloc (Nat.le_refl _) _)
            have HC := hid (show Calls Tryd.prog 30 #[.pointer (some ⟨p, 0, none⟩), .string ⟨#[108, 101, 110]⟩, .int .i64 (deep : Nat), .slice (some ⟨w2.heap.size, 0, none⟩) 4 4] (w2.alloc (.cells #[.string ⟨#[108, 101, 110]⟩, .string ⟨#[40]⟩, .string ⟨#[69, 88, 80, 82]⟩, .string ⟨#[41]⟩] 9)) (fun e w' => Rp (w2.alloc (.cells #[.string ⟨#[108, 101, 110]⟩, .string ⟨#[40]⟩, .string ⟨#[69, 88, 80, 82]⟩, .string ⟨#[41]⟩] 9)) w' p b c ws k e (formF E deep [⟨#[108, 101, 110]⟩, ⟨#[40]⟩, ⟨#[69, 88, 80, 82]⟩, ⟨#[41]⟩] (op0 ⟨#[108, 101, 110]⟩ (aw (ws.drop k))) (ws.drop k) o)) from pform_any ⟨#[108, 101, 110]⟩ deep [⟨#[108, 101, 110]⟩, ⟨#[40]⟩, ⟨#[69, 88, 80, 82]⟩, ⟨#[41]⟩] w2.heap.size hE (HT.out.next HS2.out) hN hD (pa_new w2 [⟨#[108, 101, 110]⟩, ⟨#[40]⟩, ⟨#[69, 88, 80, 82]⟩, ⟨#[41]⟩]) (by have := HP.out.pl; omega) (by decide) ⟨_, rfl, by decide⟩ hg (ne_all (by decide)) (HP.out.next HS2.out))
            have HB2 := hid (HB.out.next HS2.out)
            have HG2 := hid (HG.out.below HS2.out)
            have WS2 := hid (Nat.lt_of_lt_of_le WS.out HS2.out.size)
            go_wp2_with (go_at_call 30; with_reducible refine Calls.mono (HC.out) ?_; rintro e w5 h5; obtain ⟨g5, k', t, sa, sm, sc, ok, hk, hk2, hl, p5, rfl, hok, nv, ht⟩ := h5.parts; have HK2 := hid hk2; clear hk2; have HR5 := hid (HB2.out.gr g5 (by omega)); have HP5 := hid p5; have HG5 := hid (HG2.out.trans g5); have HN5 := hid nv; have HT5 := hid ht; have HL5 := hid hl; have HO5 := hid hok; clear h5 g5 p5 nv ht hl hok; obtain ⟨r0, r1, r2, r3, r4, r5, rz⟩ := HR5.out; have BF := hid (HR5.out.sets (.string t.op) (.string t.name) (.int .i64 (t.kind : Nat)) (.int .i64 t.n) (.int .i64 (t.pl : Nat)) (.slice sa sm sc)); have PF := hid (HP5.out.put6 (q := w.heap.size) (by omega) (by omega) (.string t.op) (.string t.name) (.int .i64 (t.kind : Nat)) (.int .i64 t.n) (.int .i64 (t.pl : Nat)) (.slice sa sm sc)); have GF := hid (HG5.out.put6 (q := w.heap.size) (by omega) (.string t.op) (.string t.name) (.int .i64 (t.kind : Nat)) (.int .i64 t.n) (.int .i64 (t.pl : Nat)) (.slice sa sm sc)); have NF := hid (HN5.out.put6w (q := w.heap.size) (m := w.heap.size) (by have := WS2.out; omega) (.string t.op) (.string t.name) (.int .i64 (t.kind : Nat)) (.int .i64 t.n) (.int .i64 (t.pl : Nat)) (.slice sa sm sc)))
            generalize World.setCell _ ⟨w.heap.size, 5, none⟩ _ = w6 at *
            obtain ⟨f0, f1, f2, f3, f4, f5, _⟩ := BF.out
            exact bodyPost_ret (v := .tuple #[.agg #[.string t.op, .string t.name, .int .i64 (t.kind : Nat), .int .i64 t.n, .int .i64 (t.pl : Nat), .slice sa sm sc], .bool ok]) (by simp [results, Tryd.results88, go_sem, f0, f1, f2, f3, f4, f5]) rfl (⟨GF.out, k', _, hk, fun e => HK2.out (by rw [← HO5.out]; exact e), HL5.out, PF.out, congrArg (fun x => Ending.returned (.tuple #[.agg #[.string t.op, .string t.name, .int .i64 (t.kind : Nat), .int .i64 t.n, .int .i64 (t.pl : Nat), .slice sa sm sc], .bool x])) HO5.out.symm, t, ⟨_, rfl, NF.out⟩, HT5.out⟩)
        · have u40 : (xt.toList == [40]) = false := (eqL xt [40]).trans e40
          have umin : (xt.toList == [109, 105, 110]) = false := (eqL xt [109, 105, 110]).trans emin
          have sx : xt = ⟨#[109, 97, 120]⟩ := eqB_eq emax
          subst sx
          have RX' := hid (show R = formF E deep [⟨#[109, 97, 120]⟩, ⟨#[40]⟩, ⟨#[69, 88, 80, 82]⟩, ⟨#[44]⟩, ⟨#[69, 88, 80, 82]⟩, ⟨#[41]⟩] (op0 ⟨#[109, 97, 120]⟩ (aw (ws.drop k))) (ws.drop k) o from by rw [RX.out, if_neg q1, if_neg (by rw [e40]; decide), if_pos (by rw [emin, emax]; decide)])
          have RX'' := RX'.out
          subst RX''
          go_upto_region 13 with fail
          have HS2 := hid (show Below w2.heap.size w2 (w2.alloc (.cells #[.string ⟨#[109, 97, 120]⟩, .string ⟨#[40]⟩, .string ⟨#[69, 88, 80, 82]⟩, .string ⟨#[44]⟩, .string ⟨#[69, 88, 80, 82]⟩, .string ⟨#[41]⟩] 9)) from (Below.refl _ _).alloc (Nat.le_refl _) _)
          have HC := hid (show Calls Tryd.prog 30 #[.pointer (some ⟨p, 0, none⟩), .string ⟨#[109, 97, 120]⟩, .int .i64 (deep : Nat), .slice (some ⟨w2.heap.size, 0, none⟩) 6 6] (w2.alloc (.cells #[.string ⟨#[109, 97, 120]⟩, .string ⟨#[40]⟩, .string ⟨#[69, 88, 80, 82]⟩, .string ⟨#[44]⟩, .string ⟨#[69, 88, 80, 82]⟩, .string ⟨#[41]⟩] 9)) (fun e w' => Rp (w2.alloc (.cells #[.string ⟨#[109, 97, 120]⟩, .string ⟨#[40]⟩, .string ⟨#[69, 88, 80, 82]⟩, .string ⟨#[44]⟩, .string ⟨#[69, 88, 80, 82]⟩, .string ⟨#[41]⟩] 9)) w' p b c ws k e (formF E deep [⟨#[109, 97, 120]⟩, ⟨#[40]⟩, ⟨#[69, 88, 80, 82]⟩, ⟨#[44]⟩, ⟨#[69, 88, 80, 82]⟩, ⟨#[41]⟩] (op0 ⟨#[109, 97, 120]⟩ (aw (ws.drop k))) (ws.drop k) o)) from pform_any ⟨#[109, 97, 120]⟩ deep [⟨#[109, 97, 120]⟩, ⟨#[40]⟩, ⟨#[69, 88, 80, 82]⟩, ⟨#[44]⟩, ⟨#[69, 88, 80, 82]⟩, ⟨#[41]⟩] w2.heap.size hE (HT.out.next HS2.out) hN hD (pa_new w2 [⟨#[109, 97, 120]⟩, ⟨#[40]⟩, ⟨#[69, 88, 80, 82]⟩, ⟨#[44]⟩, ⟨#[69, 88, 80, 82]⟩, ⟨#[41]⟩]) (by have := HP.out.pl; omega) (by decide) ⟨_, rfl, by decide⟩ hg (ne_all (by decide)) (HP.out.next HS2.out))
          have HB2 := hid (HB.out.next HS2.out)
          have HG2 := hid (HG.out.below HS2.out)
          have WS2 := hid (Nat.lt_of_lt_of_le WS.out HS2.out.size)
          go_wp2_with (go_at_call 30; with_reducible refine Calls.mono (HC.out) ?_; rintro e w5 h5; obtain ⟨g5, k', t, sa, sm, sc, ok, hk, hk2, hl, p5, rfl, hok, nv, ht⟩ := h5.parts; have HK2 := hid hk2; clear hk2; have HR5 := hid (HB2.out.gr g5 (by omega)); have HP5 := hid p5; have HG5 := hid (HG2.out.trans g5); have HN5 := hid nv; have HT5 := hid ht; have HL5 := hid hl; have HO5 := hid hok; clear h5 g5 p5 nv ht hl hok; obtain ⟨r0, r1, r2, r3, r4, r5, rz⟩ := HR5.out; have BF := hid (HR5.out.sets (.string t.op) (.string t.name) (.int .i64 (t.kind : Nat)) (.int .i64 t.n) (.int .i64 (t.pl : Nat)) (.slice sa sm sc)); have PF := hid (HP5.out.put6 (q := w.heap.size) (by omega) (by omega) (.string t.op) (.string t.name) (.int .i64 (t.kind : Nat)) (.int .i64 t.n) (.int .i64 (t.pl : Nat)) (.slice sa sm sc)); have GF := hid (HG5.out.put6 (q := w.heap.size) (by omega) (.string t.op) (.string t.name) (.int .i64 (t.kind : Nat)) (.int .i64 t.n) (.int .i64 (t.pl : Nat)) (.slice sa sm sc)); have NF := hid (HN5.out.put6w (q := w.heap.size) (m := w.heap.size) (by have := WS2.out; omega) (.string t.op) (.string t.name) (.int .i64 (t.kind : Nat)) (.int .i64 t.n) (.int .i64 (t.pl : Nat)) (.slice sa sm sc)))
          generalize World.setCell _ ⟨w.heap.size, 5, none⟩ _ = w6 at *
          obtain ⟨f0, f1, f2, f3, f4, f5, _⟩ := BF.out
          exact bodyPost_ret (v := .tuple #[.agg #[.string t.op, .string t.name, .int .i64 (t.kind : Nat), .int .i64 t.n, .int .i64 (t.pl : Nat), .slice sa sm sc], .bool ok]) (by simp [results, Tryd.results88, go_sem, f0, f1, f2, f3, f4, f5]) rfl (⟨GF.out, k', _, hk, fun e => HK2.out (by rw [← HO5.out]; exact e), HL5.out, PF.out, congrArg (fun x => Ending.returned (.tuple #[.agg #[.string t.op, .string t.name, .int .i64 (t.kind : Nat), .int .i64 t.n, .int .i64 (t.pl : Nat), .slice sa sm sc], .bool x])) HO5.out.symm, t, ⟨_, rfl, NF.out⟩, HT5.out⟩)
      · have u40 : (xt.toList == [40]) = false := (eqL xt [40]).trans e40
        have sx : xt = ⟨#[109, 105, 110]⟩ := eqB_eq emin
        subst sx
        have RX' := hid (show R = formF E deep [⟨#[109, 105, 110]⟩, ⟨#[40]⟩, ⟨#[69, 88, 80, 82]⟩, ⟨#[44]⟩, ⟨#[69, 88, 80, 82]⟩, ⟨#[41]⟩] (op0 ⟨#[109, 105, 110]⟩ (aw (ws.drop k))) (ws.drop k) o from by rw [RX.out, if_neg q1, if_neg (by rw [e40]; decide), if_pos (by rw [emin]; rfl)])
        have RX'' := RX'.out
        subst RX''
        go_upto_region 13 with fail
        have HS2 := hid (show Below w2.heap.size w2 (w2.alloc (.cells #[.string ⟨#[109, 105, 110]⟩, .string ⟨#[40]⟩, .string ⟨#[69, 88, 80, 82]⟩, .string ⟨#[44]⟩, .string ⟨#[69, 88, 80, 82]⟩, .string ⟨#[41]⟩] 9)) from (Below.refl _ _).alloc (Nat.le_refl _) _)
        have HC := hid (show Calls Tryd.prog 30 #[.pointer (some ⟨p, 0, none⟩), .string ⟨#[109, 105, 110]⟩, .int .i64 (deep : Nat), .slice (some ⟨w2.heap.size, 0, none⟩) 6 6] (w2.alloc (.cells #[.string ⟨#[109, 105, 110]⟩, .string ⟨#[40]⟩, .string ⟨#[69, 88, 80, 82]⟩, .string ⟨#[44]⟩, .string ⟨#[69, 88, 80, 82]⟩, .string ⟨#[41]⟩] 9)) (fun e w' => Rp (w2.alloc (.cells #[.string ⟨#[109, 105, 110]⟩, .string ⟨#[40]⟩, .string ⟨#[69, 88, 80, 82]⟩, .string ⟨#[44]⟩, .string ⟨#[69, 88, 80, 82]⟩, .string ⟨#[41]⟩] 9)) w' p b c ws k e (formF E deep [⟨#[109, 105, 110]⟩, ⟨#[40]⟩, ⟨#[69, 88, 80, 82]⟩, ⟨#[44]⟩, ⟨#[69, 88, 80, 82]⟩, ⟨#[41]⟩] (op0 ⟨#[109, 105, 110]⟩ (aw (ws.drop k))) (ws.drop k) o)) from pform_any ⟨#[109, 105, 110]⟩ deep [⟨#[109, 105, 110]⟩, ⟨#[40]⟩, ⟨#[69, 88, 80, 82]⟩, ⟨#[44]⟩, ⟨#[69, 88, 80, 82]⟩, ⟨#[41]⟩] w2.heap.size hE (HT.out.next HS2.out) hN hD (pa_new w2 [⟨#[109, 105, 110]⟩, ⟨#[40]⟩, ⟨#[69, 88, 80, 82]⟩, ⟨#[44]⟩, ⟨#[69, 88, 80, 82]⟩, ⟨#[41]⟩]) (by have := HP.out.pl; omega) (by decide) ⟨_, rfl, by decide⟩ hg (ne_all (by decide)) (HP.out.next HS2.out))
        have HB2 := hid (HB.out.next HS2.out)
        have HG2 := hid (HG.out.below HS2.out)
        have WS2 := hid (Nat.lt_of_lt_of_le WS.out HS2.out.size)
        go_wp2_with (go_at_call 30; with_reducible refine Calls.mono (HC.out) ?_; rintro e w5 h5; obtain ⟨g5, k', t, sa, sm, sc, ok, hk, hk2, hl, p5, rfl, hok, nv, ht⟩ := h5.parts; have HK2 := hid hk2; clear hk2; have HR5 := hid (HB2.out.gr g5 (by omega)); have HP5 := hid p5; have HG5 := hid (HG2.out.trans g5); have HN5 := hid nv; have HT5 := hid ht; have HL5 := hid hl; have HO5 := hid hok; clear h5 g5 p5 nv ht hl hok; obtain ⟨r0, r1, r2, r3, r4, r5, rz⟩ := HR5.out; have BF := hid (HR5.out.sets (.string t.op) (.string t.name) (.int .i64 (t.kind : Nat)) (.int .i64 t.n) (.int .i64 (t.pl : Nat)) (.slice sa sm sc)); have PF := hid (HP5.out.put6 (q := w.heap.size) (by omega) (by omega) (.string t.op) (.string t.name) (.int .i64 (t.kind : Nat)) (.int .i64 t.n) (.int .i64 (t.pl : Nat)) (.slice sa sm sc)); have GF := hid (HG5.out.put6 (q := w.heap.size) (by omega) (.string t.op) (.string t.name) (.int .i64 (t.kind : Nat)) (.int .i64 t.n) (.int .i64 (t.pl : Nat)) (.slice sa sm sc)); have NF := hid (HN5.out.put6w (q := w.heap.size) (m := w.heap.size) (by have := WS2.out; omega) (.string t.op) (.string t.name) (.int .i64 (t.kind : Nat)) (.int .i64 t.n) (.int .i64 (t.pl : Nat)) (.slice sa sm sc)))
        generalize World.setCell _ ⟨w.heap.size, 5, none⟩ _ = w6 at *
        obtain ⟨f0, f1, f2, f3, f4, f5, _⟩ := BF.out
        exact bodyPost_ret (v := .tuple #[.agg #[.string t.op, .string t.name, .int .i64 (t.kind : Nat), .int .i64 t.n, .int .i64 (t.pl : Nat), .slice sa sm sc], .bool ok]) (by simp [results, Tryd.results88, go_sem, f0, f1, f2, f3, f4, f5]) rfl (⟨GF.out, k', _, hk, fun e => HK2.out (by rw [← HO5.out]; exact e), HL5.out, PF.out, congrArg (fun x => Ending.returned (.tuple #[.agg #[.string t.op, .string t.name, .int .i64 (t.kind : Nat), .int .i64 t.n, .int .i64 (t.pl : Nat), .slice sa sm sc], .bool x])) HO5.out.symm, t, ⟨_, rfl, NF.out⟩, HT5.out⟩)
    · have u40 : (xt.toList == [40]) = true := (eqL xt [40]).trans e40
      obtain ⟨RF, hRF⟩ : ∃ RF, formF E deep [⟨#[40]⟩, ⟨#[69, 88, 80, 82]⟩, ⟨#[41]⟩] (op0 ⟨#[]⟩ (aw (ws.drop k))) (ws.drop k) o = RF := ⟨_, rfl⟩
      have OK1 := hid (show ∀ n, RF.t = some n → ∃ t, n.kids = [t] from fun n e => open_kids (by rw [hRF]; exact e))
      have RX' := hid (show R = kidF RF from by rw [RX.out, if_neg q1, if_pos e40, hRF])
      go_upto_region 7 with fail
      have HS2 := hid (show Below w2.heap.size w2 (w2.alloc (.cells #[.string ⟨#[40]⟩, .string ⟨#[69, 88, 80, 82]⟩, .string ⟨#[41]⟩] 9)) from (Below.refl _ _).alloc (Nat.le_refl _) _)
      have HC := hid (show Calls Tryd.prog 30 #[.pointer (some ⟨p, 0, none⟩), .string ⟨#[]⟩, .int .i64 (deep : Nat), .slice (some ⟨w2.heap.size, 0, none⟩) 3 3] (w2.alloc (.cells #[.string ⟨#[40]⟩, .string ⟨#[69, 88, 80, 82]⟩, .string ⟨#[41]⟩] 9)) (fun e w' => Rp (w2.alloc (.cells #[.string ⟨#[40]⟩, .string ⟨#[69, 88, 80, 82]⟩, .string ⟨#[41]⟩] 9)) w' p b c ws k e (formF E deep [⟨#[40]⟩, ⟨#[69, 88, 80, 82]⟩, ⟨#[41]⟩] (op0 ⟨#[]⟩ (aw (ws.drop k))) (ws.drop k) o)) from pform_any ⟨#[]⟩ deep [⟨#[40]⟩, ⟨#[69, 88, 80, 82]⟩, ⟨#[41]⟩] w2.heap.size hE (HT.out.next HS2.out) hN hD (pa_new w2 [⟨#[40]⟩, ⟨#[69, 88, 80, 82]⟩, ⟨#[41]⟩]) (by have := HP.out.pl; omega) (by decide) ⟨_, rfl, by decide⟩ hg (ne_all (by decide)) (HP.out.next HS2.out))
      have HB2 := hid (HB.out.next HS2.out)
      have HG2 := hid (HG.out.below HS2.out)
      have WS2 := hid (Nat.lt_of_lt_of_le WS.out HS2.out.size)
      rw [hRF] at HC
      clear hRF RX
      obtain ⟨rt, rl, ro⟩ := RF
      go_upto_region 8 with (go_at_call 30; with_reducible refine Calls.mono (HC.out) ?_; rintro e w5 h5; obtain ⟨g5, k', t, sa, sm, sc, ok, hk, hk2, hl, p5, rfl, hok, nv, ht⟩ := h5.parts; have HK2 := hid hk2; clear hk2; have HR5 := hid (HB2.out.gr g5 (by omega)); have HP5 := hid p5; have HG5 := hid (HG2.out.trans g5); have HN5 := hid nv; have HT5 := hid ht; have HL5 := hid hl; have HO5 := hid hok; have WS5 := hid (Nat.lt_of_lt_of_le WS2.out g5.size); clear h5 g5 p5 nv ht hl hok)
      have HS6 := hid (show Below w5.heap.size w5 (w5.alloc (.cells #[.string t.op, .string t.name, .int .i64 (t.kind : Nat), .int .i64 t.n, .int .i64 (t.pl : Nat), .slice sa sm sc] 26)) from (Below.refl _ _).alloc (Nat.le_refl _) _)
      have B6n := hid (B6.new w5 26 (.string t.op) (.string t.name) (.int .i64 (t.kind : Nat)) (.int .i64 t.n) (.int .i64 (t.pl : Nat)) (.slice sa sm sc))
      have HP6 := hid (HP5.out.next HS6.out)
      have HG6 := hid (HG5.out.below HS6.out)
      have HB6 := hid (HR5.out.next HS6.out)
      have HN6 := hid ((HN5.out.next HS6.out).weak (m := w.heap.size + 1) (by have := WS2.out; omega))
      generalize World.alloc w5 _ = w6 at *
      generalize w5.heap.size = gb at *
      clear HS6 HP5 HG5 HR5 HN5 HC HB2 HG2 HB HG HP
      obtain ⟨b0, b1, b2, b3, b4, b5, _⟩ := B6n.out
      obtain ⟨r0, r1, r2, r3, r4, r5, rz⟩ := HB6.out
      have HL5 := HL5.out
      have HL5 : rl = ws.drop k' := HL5
      subst HL5
      cases rt with
      | none =>
        have ok0 : ok = false := HO5.out.symm
        subst ok0
        have LR := hid (show R = ⟨none, ws.drop k', ro⟩ from RX'.out)
        have BF := hid (HB6.out.sets (.string ⟨#[]⟩) (.string ⟨#[]⟩) (.int .i64 0) (.int .i64 0) (.int .i64 0) (.slice none 0 0))
        have PF := hid (HP6.out.put6 (q := w.heap.size) (by omega) (by omega) (.string ⟨#[]⟩) (.string ⟨#[]⟩) (.int .i64 0) (.int .i64 0) (.int .i64 0) (.slice none 0 0))
        have GF := hid (HG6.out.put6 (q := w.heap.size) (by omega) (.string ⟨#[]⟩) (.string ⟨#[]⟩) (.int .i64 0) (.int .i64 0) (.int .i64 0) (.slice none 0 0))
        go_wp2_with fail
        generalize World.setCell _ ⟨w.heap.size, 5, none⟩ _ = w9 at *
        obtain ⟨f0, f1, f2, f3, f4, f5, _⟩ := BF.out
        exact bodyPost_ret (v := .tuple #[.agg #[.string ⟨#[]⟩, .string ⟨#[]⟩, .int .i64 0, .int .i64 0, .int .i64 0, .slice none 0 0], .bool false]) (by simp [results, Tryd.results88, go_sem, f0, f1, f2, f3, f4, f5]) rfl (Rp.no hk LR.out GF.out PF.out (Nv.leaf ⟨#[]⟩ ⟨#[]⟩ 0 0 0))
      | some t0 =>
        have ok1 : ok = true := HO5.out.symm
        subst ok1
        obtain rfl : t = t0 := HT5.out t0 rfl
        obtain ⟨t1, ht1⟩ := OK1.out t rfl
        have LR := hid (show R = ⟨some t1, ws.drop k', ro⟩ from by rw [RX'.out]; show (⟨t.kids.head?, _, _⟩ : Rs) = _; rw [ht1]; rfl)
        rw [ht1] at HN6
        obtain ⟨gk, ck, sl1, e1, nc1, nd1⟩ := HN6.out.uncons
        obtain ⟨sa1, sm1, sc1, rfl⟩ := nd1.sl
        injection e1 with e1 e2 e3
        subst e1 e2 e3
        have gne : gk ≠ w.heap.size := by have := nc1.2; omega
        obtain ⟨m0, m1, m2, m3, m4, m5⟩ := nc1.1
        have ND1 := hid nd1
        clear HN6 nd1
        have BF := hid (HB6.out.sets (.string t1.op) (.string t1.name) (.int .i64 (t1.kind : Nat)) (.int .i64 t1.n) (.int .i64 (t1.pl : Nat)) (.slice sa1 sm1 sc1))
        have PF := hid (HP6.out.put6 (q := w.heap.size) (by omega) (by omega) (.string t1.op) (.string t1.name) (.int .i64 (t1.kind : Nat)) (.int .i64 t1.n) (.int .i64 (t1.pl : Nat)) (.slice sa1 sm1 sc1))
        have GF := hid (HG6.out.put6 (q := w.heap.size) (by omega) (.string t1.op) (.string t1.name) (.int .i64 (t1.kind : Nat)) (.int .i64 t1.n) (.int .i64 (t1.pl : Nat)) (.slice sa1 sm1 sc1))
        have NF := hid (ND1.out.put6w (q := w.heap.size) (m := w.heap.size) (by omega) (.string t1.op) (.string t1.name) (.int .i64 (t1.kind : Nat)) (.int .i64 t1.n) (.int .i64 (t1.pl : Nat)) (.slice sa1 sm1 sc1))
        go_wp2_with fail
        generalize World.setCell _ ⟨w.heap.size, 5, none⟩ _ = w9 at *
        obtain ⟨f0, f1, f2, f3, f4, f5, _⟩ := BF.out
        exact bodyPost_ret (v := .tuple #[.agg #[.string t1.op, .string t1.name, .int .i64 (t1.kind : Nat), .int .i64 t1.n, .int .i64 (t1.pl : Nat), .slice sa1 sm1 sc1], .bool true]) (by simp [results, Tryd.results88, go_sem, f0, f1, f2, f3, f4, f5]) rfl (Rp.yes (by first | exact HK2.out rfl | exact HK2.out trivial) LR.out GF.out PF.out ⟨_, rfl, NF.out⟩)
end Go.Proofs.YtobolipjgkabhaaDoor
