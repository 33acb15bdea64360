/- The walk over the parser's form. -/
import Derived.Test.YtobolipjgkabhaaDoorSf
import Derived.Deep.LoopGhost
import Derived.BigQuiet
import Derived.Deep.RegionHeld3
namespace Go.Proofs.YtobolipjgkabhaaDoor
open Go.RowKit
set_option linter.unusedVariables false
set_option linter.unusedSimpArgs false

/-- What form holds while it reads part behind part: its node's box q, its answer's box r. -/
structure Fm (w wr : World) (p b c : Nat) (ws : List Wo) (q base k : Nat) (o : Option Nat) (n : Tr) (sl : Value) : Prop where
  ps : Ps wr p b c ws k o
  gr : Gr w wr p
  bq : B6 wr q (.string n.op) (.string n.name) (.int .i64 (n.kind : Nat)) (.int .i64 n.n) (.int .i64 (n.pl : Nat)) sl
  br : B6 wr w.heap.size (.string ⟨#[]⟩) (.string ⟨#[]⟩) (.int .i64 0) (.int .i64 0) (.int .i64 0) (.slice none 0 0)
  kr : Kr wr base sl n.kids
  kl : n.kids.length ≤ 20000
  ba : base ≤ wr.heap.size
  wp : p < w.heap.size
  wb : b < w.heap.size
  wq : w.heap.size < q
  qb : q < base
theorem Fm.call {w wr w5 : World} {p b c : Nat} {ws : List Wo} {q base k k5 : Nat} {o o5 : Option Nat} {n : Tr} {sl : Value} (h : Fm w wr p b c ws q base k o n sl) (g : Gr wr w5 p) (hp : Ps w5 p b c ws k5 o5) : Fm w w5 p b c ws q base k5 o5 n sl := by
  have := h.wp; have := h.wq; have := h.qb
  exact ⟨hp, h.gr.trans g, h.bq.gr g (by omega), h.br.gr g (by omega), h.kr.gr g (by omega), h.kl, Nat.le_trans h.ba g.size, h.wp, h.wb, h.wq, h.qb⟩
theorem Fm.next {w wr w5 : World} {p b c : Nat} {ws : List Wo} {q base k : Nat} {o : Option Nat} {n : Tr} {sl : Value} (h : Fm w wr p b c ws q base k o n sl) (g : Below wr.heap.size wr w5) : Fm w w5 p b c ws q base k o n sl :=
  h.call ((Gr.refl _ _).below g) (h.ps.next g)
theorem Fm.name {w wr : World} {p b c : Nat} {ws : List Wo} {q base k : Nat} {o : Option Nat} {n : Tr} {sl : Value} (h : Fm w wr p b c ws q base k o n sl) (s : ByteArray) : Fm w (wr.setCell ⟨q, 1, none⟩ (.string s)) p b c ws q base k o (n.setName s) sl := by
  have := h.wp; have := h.wb; have := h.wq; have := h.qb
  cases n
  exact ⟨h.ps.put (by omega) (by omega) _, h.gr.put (by omega) _, h.bq.set1 _, h.br.put (by omega) _, h.kr.put (by omega) _, h.kl, by simpa using h.ba, h.wp, h.wb, h.wq, h.qb⟩
theorem Fm.kind {w wr : World} {p b c : Nat} {ws : List Wo} {q base k : Nat} {o : Option Nat} {op name : ByteArray} {kd : Nat} {m : Int} {a : Nat} {ks : List Tr} {sl : Value} (h : Fm w wr p b c ws q base k o (.nd op name kd m a ks) sl) (x : Nat) : Fm w (wr.setCell ⟨q, 2, none⟩ (.int .i64 (x : Nat))) p b c ws q base k o (.nd op name x m a ks) sl := by
  have := h.wp; have := h.wb; have := h.wq; have := h.qb
  exact ⟨h.ps.put (by omega) (by omega) _, h.gr.put (by omega) _, h.bq.set2 _, h.br.put (by omega) _, h.kr.put (by omega) _, h.kl, by simpa using h.ba, h.wp, h.wb, h.wq, h.qb⟩
theorem Fm.num {w wr : World} {p b c : Nat} {ws : List Wo} {q base k : Nat} {o : Option Nat} {op name : ByteArray} {kd : Nat} {m : Int} {a : Nat} {ks : List Tr} {sl : Value} (h : Fm w wr p b c ws q base k o (.nd op name kd m a ks) sl) (x : Int) : Fm w (wr.setCell ⟨q, 3, none⟩ (.int .i64 x)) p b c ws q base k o (.nd op name kd x a ks) sl := by
  have := h.wp; have := h.wb; have := h.wq; have := h.qb
  exact ⟨h.ps.put (by omega) (by omega) _, h.gr.put (by omega) _, h.bq.set3 _, h.br.put (by omega) _, h.kr.put (by omega) _, h.kl, by simpa using h.ba, h.wp, h.wb, h.wq, h.qb⟩
theorem Fm.step {w wr : World} {p b c : Nat} {ws : List Wo} {q base k : Nat} {o : Option Nat} {n : Tr} {sl : Value} (h : Fm w wr p b c ws q base k o n sl) (hk : k + 1 < ws.length) : Fm w (wr.setCell ⟨p, 1, none⟩ (.int .i64 ((k : Int) + 1))) p b c ws q base (k + 1) o n sl :=
  h.call ((Gr.refl _ _).set _) (h.ps.step hk)
/-- A kid is appended, and laid into the node's box. -/
theorem Fm.kid {w wr w' : World} {p b c : Nat} {ws : List Wo} {q base k : Nat} {o : Option Nat} {n t : Tr} {sl v' : Value} (h : Fm w wr p b c ws q base k o n sl) (g : wr.grownBy w' sl.ownBlock) (kr : Kr w' base v' (n.kids ++ [t])) (hl : n.kids.length < 20000) : Fm w (w'.setCell ⟨q, 5, none⟩ v') p b c ws q base k o (n.add t) v' := by
  have := h.wp; have := h.wb; have := h.wq; have := h.qb
  have lt := h.kr.lt
  have ne : ∀ x, x < base → some x ≠ sl.ownBlock := fun x hx e => by have := (lt x e.symm).1; omega
  cases n
  refine ⟨(h.ps.grown g (ne _ (by omega)) (ne _ (by omega))).put (by omega) (by omega) _, (h.gr.own g (fun i e => by have := (lt i e).1; omega)).put (by omega) _, (h.bq.grown g (ne _ h.qb)).set5 _, (h.br.grown g (ne _ (by omega))).put (by omega) _, kr.put (by omega) _, ?_, by simpa using Nat.le_trans h.ba g.size, h.wp, h.wb, h.wq, h.qb⟩
  show (_ ++ [_]).length ≤ 20000
  rw [List.length_append]
  exact hl
theorem Fm.put6 {w wr : World} {p b c : Nat} {ws : List Wo} {q base k e : Nat} {o : Option Nat} {n : Tr} {sl : Value} (h : Fm w wr p b c ws q base k o n sl) (he : base ≤ e) (v0 v1 v2 v3 v4 v5 : Value) (kr : Kr ((((((wr.setCell ⟨e, 0, none⟩ v0).setCell ⟨e, 1, none⟩ v1).setCell ⟨e, 2, none⟩ v2).setCell ⟨e, 3, none⟩ v3).setCell ⟨e, 4, none⟩ v4).setCell ⟨e, 5, none⟩ v5) base sl n.kids) : Fm w ((((((wr.setCell ⟨e, 0, none⟩ v0).setCell ⟨e, 1, none⟩ v1).setCell ⟨e, 2, none⟩ v2).setCell ⟨e, 3, none⟩ v3).setCell ⟨e, 4, none⟩ v4).setCell ⟨e, 5, none⟩ v5) p b c ws q base k o n sl := by
  have := h.wp; have := h.wb; have := h.wq; have := h.qb
  exact ⟨h.ps.put6 (by omega) (by omega) v0 v1 v2 v3 v4 v5, h.gr.put6 (by omega) v0 v1 v2 v3 v4 v5, h.bq.put6 (by omega) v0 v1 v2 v3 v4 v5, h.br.put6 (by omega) v0 v1 v2 v3 v4 v5, kr, h.kl, by rw [size6]; exact h.ba, h.wp, h.wb, h.wq, h.qb⟩
theorem Fm.off {w wr : World} {p b c : Nat} {ws : List Wo} {q base k : Nat} {o : Option Nat} {n : Tr} {sl : Value} (h : Fm w wr p b c ws q base k o n sl) {x : Nat} (hx : x < base) : some x ≠ sl.ownBlock := fun e => by have := (h.kr.lt x e.symm).1; omega
theorem Fm.yes {w wr : World} {p b c : Nat} {ws : List Wo} {q base k : Nat} {o : Option Nat} {n : Tr} {sl : Value} (h : Fm w wr p b c ws q base k o n sl) : Nd wr (fun g => w.heap.size + 1 ≤ g) sl n.kids := by
  have := h.wq; have := h.qb
  exact h.kr.nd.weak (by omega)
theorem eqB_eq {a b : ByteArray} (h : eqB a b = true) : a = b := by
  unfold eqB at h
  have h := Array.toList_inj.1 (eq_of_beq h)
  cases a; cases b
  simp only at h
  rw [h]
theorem B6.nc {w : World} {b : Nat} {t : Tr} {sl : Value} (h : B6 w b (.string t.op) (.string t.name) (.int .i64 (t.kind : Nat)) (.int .i64 t.n) (.int .i64 (t.pl : Nat)) sl) : NC w b 0 t sl := ⟨h.c0, h.c1, h.c2, h.c3, h.c4, h.c5⟩
def kidR (E : Ex) (deep : Nat) (ps : List ByteArray) (n : Tr) (r : Rs) : Rs := match r with | ⟨none, l', o'⟩ => ⟨none, l', o'⟩ | ⟨some t, l', o'⟩ => formF E deep ps (n.add t) l' o'
theorem formF_lit (E : Ex) (deep : Nat) (ps : List ByteArray) (n : Tr) (l : List Wo) (o : Option Nat) : formF E deep (sLIT :: ps) n l o = kidR E deep ps n (litR l o) := by
  unfold kidR litR
  simp only [formF]
  rw [if_neg (by decide), if_neg (by decide), if_pos (by decide)]
  cases litF l <;> rfl
theorem formF_expr (E : Ex) (deep : Nat) (ps : List ByteArray) (n : Tr) (l : List Wo) (o : Option Nat) : formF E deep (sEXPR :: ps) n l o = kidR E deep ps n (E (deep + 1) l o) := by
  unfold kidR
  simp only [formF]
  rw [if_neg (by decide), if_neg (by decide), if_neg (by decide), if_pos (by decide)]
  rfl
/-- The parts in memory. -/
def Pa (w : World) (pa : Nat) (ps : List ByteArray) : Prop := ∀ i s, ps[i]? = some s → w.cell? ⟨pa, i, none⟩ = some (.string s)
set_option maxRecDepth 100000 in
set_option maxHeartbeats 8000000 in
theorem pform_any {w : World} {p b c : Nat} {ws : List Wo} {k : Nat} {o : Option Nat} (op : ByteArray) (deep : Nat) (ps : List ByteArray) (pa : Nat) {E : Ex} {N : Nat} (hE : EC E N p b c ws) (hT : KT w) (hN : ws.length - k ≤ N) (hD : deep + (ws.length - k) ≤ 10000)
    (hpa : Pa w pa ps) (hpp : pa ≠ p) (hpl : ps.length ≤ 10) (h0 : ∃ s, ps[0]? = some s ∧ eqB s sEXPR = false) (hg : 1 ≠ p) (hne : ∀ s ∈ ps, s ≠ ⟨#[]⟩) (h : Ps w p b c ws k o) :
    Calls Tryd.prog 30 #[.pointer (some ⟨p, 0, none⟩), .string op, .int .i64 (deep : Nat), .slice (some ⟨pa, 0, none⟩) ps.length ps.length] w fun e w' => Rp w w' p b c ws k e (formF E deep ps (op0 op (aw (ws.drop k))) (ws.drop k) o) := by
  have EH := hid hE
  have TH := hid hT
  have PH := hid hpa
  have NE := hid hne
  have P0 := hid h0
  have hd : (deep : Int) ≤ 10000 := by omega
  have ld : deep ≤ 10000 := by omega
  obtain ⟨x, cu⟩ := h.cur
  have PN := h.ne
  have rp := h.pl
  have rb := h.bl
  obtain ⟨spa, hspa, _⟩ := h0
  have rpa : pa < w.heap.size := World.block_lt_of_cell? _ _ (hpa 0 spa hspa)
  have AX : aw (ws.drop k) = x.a := by rw [cu.dr]; rfl
  rw [AX]
  obtain ⟨R, hR⟩ : ∃ R, formF E deep ps (op0 op x.a) (ws.drop k) o = R := ⟨_, rfl⟩
  rw [hR]
  have HR := hid hR
  clear hR
  have XA := hid cu.at_
  have l1 : (k : Int) < (ws.length : Int) := by have := h.lt; omega
  have l2 : ws.length ≤ 9000 := h.len
  have HB := hid (B6.new w 26 (.string ⟨#[]⟩) (.string ⟨#[]⟩) (.int .i64 0) (.int .i64 0) (.int .i64 0) (.slice none 0 0))
  have HS0 : Hid (Below w.heap.size w (w.alloc (.cells #[.string ⟨#[]⟩, .string ⟨#[]⟩, .int .i64 0, .int .i64 0, .int .i64 0, .slice none 0 0] 26))) := (Below.refl _ _).alloc (Nat.le_refl _) _
  have HP := hid (h.next HS0.out)
  have HG := hid ((Gr.refl w p).below HS0.out)
  have WS := hid (show w.heap.size < (w.alloc (.cells #[.string ⟨#[]⟩, .string ⟨#[]⟩, .int .i64 0, .int .i64 0, .int .i64 0, .slice none 0 0] 26)).heap.size from by simp)
  have c0 := HP.out.c0
  have c1 := HP.out.c1
  have d0 := HP.out.w0 _ _ XA.out
  have d1 := HP.out.w1 _ _ XA.out
  have d2 := HP.out.w2 _ _ XA.out
  have d3 := HP.out.w3 _ _ XA.out
  clear h cu hE hT hpa hne AX hspa
  obtain ⟨xk, xt, xn, xa⟩ := x
  simp only at d0 d1 d2 d3 XA HR
  go_enter Tryd.func30, Tryd.ntmps30
  go_upto_region 1 with fail
  generalize World.alloc w _ = w1 at *
  refine wp_region_held_drew (S := (fun W => W.cell? ⟨p, 0, none⟩ = some (.slice (some ⟨b, 0, none⟩) ws.length c) ∧ W.cell? ⟨p, 1, none⟩ = some (.int .i64 (k : Nat)) ∧ W.cell? ⟨b, k * 4, none⟩ = some (.int .i64 (xk : Nat)) ∧ W.cell? ⟨b, k * 4 + 1, none⟩ = some (.string xt) ∧ W.cell? ⟨b, k * 4 + 2, none⟩ = some (.int .i64 (xn : Nat)) ∧ W.cell? ⟨b, k * 4 + 3, none⟩ = some (.int .i64 (xa : Nat)))) (by kernel_rfl) ⟨c0, c1, d0, d1, d2, d3⟩ (fun hHeld => ?_)
  have HP0 := hid (show Ps w1.drew p b c ws k o from HP.out.next (Below.refl _ _).drew)
  have HG0 := hid (show Gr w w1.drew p from HG.out.drew)
  have HB0 := hid (HB.out.next (Below.refl w1.heap.size w1).drew)
  replace WS := hid (show w.heap.size < w1.drew.heap.size from WS.out)
  clear HP HG HB
  generalize w1.drew = wz at *
  refine take2 rfl (i := 0) (v := .string op) (d := 15) rfl rfl (by kernel_rfl) (by kernel_rfl) (by kernel_rfl) (fun _ _ _ h => h) (Or.inl ⟨by rfl, ?_⟩) hHeld ?_
  · (intro W hW; (try dsimp only at hW); go_simp)
  try simp only [Act.put, List.setIfInBounds_toArray, List.set_cons_zero, List.set_cons_succ]
  refine take2 rfl (i := 1) (v := .pointer (some ⟨p, 0, none⟩)) (d := 16) rfl rfl (by kernel_rfl) (by kernel_rfl) (by kernel_rfl) (fun _ _ _ h => h) (Or.inl ⟨by rfl, ?_⟩) hHeld ?_
  · (intro W hW; (try dsimp only at hW); go_simp)
  try simp only [Act.put, List.setIfInBounds_toArray, List.set_cons_zero, List.set_cons_succ]
  refine take2 rfl (i := 2) (v := .pointer (some ⟨p, 0, none⟩)) (d := 17) rfl rfl (by kernel_rfl) (by kernel_rfl) (by kernel_rfl) (fun _ _ _ h => h) (Or.inl ⟨by rfl, ?_⟩) hHeld ?_
  · (intro W hW; (try dsimp only at hW); go_simp)
  try simp only [Act.put, List.setIfInBounds_toArray, List.set_cons_zero, List.set_cons_succ]
  refine take2 rfl (i := 3) (v := .pointer (some ⟨p, 0, none⟩)) (d := 18) rfl rfl (by kernel_rfl) (by kernel_rfl) (by kernel_rfl) (fun _ _ _ h => h) (Or.inl ⟨by rfl, ?_⟩) hHeld ?_
  · (intro W hW; (try dsimp only at hW); go_simp)
  try simp only [Act.put, List.setIfInBounds_toArray, List.set_cons_zero, List.set_cons_succ]
  refine take2 rfl (i := 4) (v := .slice (some ⟨b, 0, none⟩) ws.length c) (d := 19) rfl rfl (by kernel_rfl) (by kernel_rfl) (by kernel_rfl) (fun _ _ _ h => h) (Or.inl ⟨by rfl, ?_⟩) hHeld ?_
  · (intro W hW; (try dsimp only at hW); go_simp)
  try simp only [Act.put, List.setIfInBounds_toArray, List.set_cons_zero, List.set_cons_succ]
  refine take2 rfl (i := 5) (v := .pointer (some ⟨p, 0, none⟩)) (d := 20) rfl rfl (by kernel_rfl) (by kernel_rfl) (by kernel_rfl) (fun _ _ _ h => h) (Or.inl ⟨by rfl, ?_⟩) hHeld ?_
  · (intro W hW; (try dsimp only at hW); go_simp)
  try simp only [Act.put, List.setIfInBounds_toArray, List.set_cons_zero, List.set_cons_succ]
  refine take2 rfl (i := 6) (v := .pointer (some ⟨p, 0, none⟩)) (d := 21) rfl rfl (by kernel_rfl) (by kernel_rfl) (by kernel_rfl) (fun _ _ _ h => h) (Or.inl ⟨by rfl, ?_⟩) hHeld ?_
  · (intro W hW; (try dsimp only at hW); go_simp)
  try simp only [Act.put, List.setIfInBounds_toArray, List.set_cons_zero, List.set_cons_succ]
  refine take2 rfl (i := 7) (v := .pointer (some ⟨p, 1, none⟩)) (d := 22) rfl rfl (by kernel_rfl) (by kernel_rfl) (by kernel_rfl) (fun _ _ _ h => h) (Or.inl ⟨by rfl, ?_⟩) hHeld ?_
  · (intro W hW; (try dsimp only at hW); go_simp)
  try simp only [Act.put, List.setIfInBounds_toArray, List.set_cons_zero, List.set_cons_succ]
  refine take2 rfl (i := 8) (v := .int .i64 (k : Nat)) (d := 23) rfl rfl (by kernel_rfl) (by kernel_rfl) (by kernel_rfl) (fun _ _ _ h => h) (Or.inl ⟨by rfl, ?_⟩) hHeld ?_
  · (intro W hW; (try dsimp only at hW); go_simp)
  try simp only [Act.put, List.setIfInBounds_toArray, List.set_cons_zero, List.set_cons_succ]
  refine take2 rfl (i := 9) (v := .pointer (some ⟨b, k * 4, none⟩)) (d := 24) rfl rfl (by kernel_rfl) (by kernel_rfl) (by kernel_rfl) (fun _ _ _ h => h) (Or.inl ⟨by rfl, ?_⟩) hHeld ?_
  · (intro W hW; (try dsimp only at hW); go_simp)
  try simp only [Act.put, List.setIfInBounds_toArray, List.set_cons_zero, List.set_cons_succ]
  refine take2 rfl (i := 10) (v := .pointer (some ⟨b, k * 4 + 3, none⟩)) (d := 25) rfl rfl (by kernel_rfl) (by kernel_rfl) (by kernel_rfl) (fun _ _ _ h => h) (Or.inl ⟨by rfl, ?_⟩) hHeld ?_
  · (intro W hW; (try dsimp only at hW); go_simp)
  try simp only [Act.put, List.setIfInBounds_toArray, List.set_cons_zero, List.set_cons_succ]
  refine take2 rfl (i := 11) (v := .int .i64 (xa : Nat)) (d := 26) rfl rfl (by kernel_rfl) (by kernel_rfl) (by kernel_rfl) (fun _ _ _ h => h) (Or.inl ⟨by rfl, ?_⟩) hHeld ?_
  · (intro W hW; (try dsimp only at hW); go_simp)
  try simp only [Act.put, List.setIfInBounds_toArray, List.set_cons_zero, List.set_cons_succ]
  refine take2 rfl (i := 12) (v := .agg #[.string op, .string ⟨#[]⟩, .int .i64 0, .int .i64 0, .int .i64 (xa : Nat), .slice none 0 0]) (d := 27) rfl rfl (by kernel_rfl) (by kernel_rfl) (by kernel_rfl) (fun _ _ _ h => h) (Or.inl ⟨by rfl, ?_⟩) hHeld ?_
  · (intro W hW; (try dsimp only at hW); go_simp)
  try simp only [Act.put, List.setIfInBounds_toArray, List.set_cons_zero, List.set_cons_succ]
  refine wpAnyH_ready (rs := [13]) (by kernel_rfl) (by simp) ?_
  refine cons2 rfl rfl (fun K9 hK => ?_)
  go_simp
  have BL := hid ((Below.refl wz.heap.size wz).alloc (Nat.le_refl _) (.cells #[.string ⟨#[]⟩, .string ⟨#[]⟩, .int .i64 0, .int .i64 0, .int .i64 0, .slice none 0 0] 26))
  refine hK.out _ _ (by have H := HP0.out.next BL.out; exact ⟨H.c0, H.c1, H.w0 _ _ XA.out, H.w1 _ _ XA.out, H.w2 _ _ XA.out, H.w3 _ _ XA.out⟩) (fun hX => ?_)
  clear hK K9 hHeld
  have hHeld := hX
  clear hX
  try simp only [Act.put, List.setIfInBounds_toArray, List.set_cons_zero, List.set_cons_succ]
  refine wpAnyH_ready (rs := [14]) (by kernel_rfl) (by simp) ?_
  refine cons2 rfl rfl (fun K9 hK => ?_)
  go_simp
  have BL2 := hid (show Below wz.heap.size wz (wz.alloc (.cells #[.string op, .string ⟨#[]⟩, .int .i64 0, .int .i64 0, .int .i64 (xa : Nat), .slice none 0 0] 26)) from (Below.refl wz.heap.size wz).alloc (Nat.le_refl _) _)
  have BQ := hid (B6.new wz 26 (.string op) (.string ⟨#[]⟩) (.int .i64 0) (.int .i64 0) (.int .i64 (xa : Nat)) (.slice none 0 0))
  have HP := hid (HP0.out.next BL2.out)
  refine hK.out _ _ (⟨HP.out.c0, HP.out.c1, HP.out.w0 _ _ XA.out, HP.out.w1 _ _ XA.out, HP.out.w2 _ _ XA.out, HP.out.w3 _ _ XA.out⟩) (fun hX => ?_)
  clear hK K9 hHeld
  have hHeld := hX
  clear hX
  try simp only [Act.put, List.setIfInBounds_toArray, List.set_cons_zero, List.set_cons_succ]
  refine wpAnyH_done (by kernel_rfl) ?_ _

  have SB := hid (show (wz.alloc (.cells #[.string op, .string ⟨#[]⟩, .int .i64 0, .int .i64 0, .int .i64 (xa : Nat), .slice none 0 0] 26)).heap.size = wz.heap.size + 1 from by simp)
  have F0 := hid (show Fm w (wz.alloc (.cells #[.string op, .string ⟨#[]⟩, .int .i64 0, .int .i64 0, .int .i64 (xa : Nat), .slice none 0 0] 26)) p b c ws wz.heap.size (wz.heap.size + 1) k o (op0 op xa) (.slice none 0 0) from
    ⟨HP.out, HG0.out.below BL2.out, BQ.out, HB0.out.next BL2.out, Kr.nil _ _, Nat.zero_le _, by rw [SB.out]; exact Nat.le_refl _, rp, rb, WS.out, Nat.lt_succ_self _⟩)
  clear hHeld BL BL2 BQ HP HP0 HG0 HB0 SB WS c0 c1 d0 d1 d2 d3 HS0
  generalize World.alloc wz _ = w2 at *
  generalize wz.heap.size = q at *
  go_upto_region 3 with fail
  go_loopg [30] (ps.length + 1) (fun g iv wr => ∃ (i k' : Nat) (o' : Option Nat) (n : Tr) (sl : Value), i ≤ ps.length ∧ g = ps.length + 1 - i ∧ iv = .int .i64 (i : Nat) ∧ k ≤ k' ∧ Hid (i = 0 ∨ k < k') ∧ n.kids.length ≤ i ∧ Hid (Fm w wr p b c ws q (q + 1) k' o' n sl) ∧ Hid (formF E deep (ps.drop i) n (ws.drop k') o' = R))
  case atStart => exact ⟨0, k, o, op0 op xa, .slice none 0 0, Nat.zero_le _, rfl, rfl, Nat.le_refl _, Or.inl rfl, Nat.zero_le _, F0, HR⟩
  case round =>
    clear F0 HR
    obtain ⟨i, k', o', n, sl, hi, rfl, rfl, hkk, HK, hkl, FH, HR⟩ := hrel
    have F := FH.out
    have wq := F.wq
    have hkl2 : n.kids.length < 20000 := by omega
    clear F
    by_cases qi : i < ps.length
    · have q' : (i : Int) < (ps.length : Int) := by omega
      obtain ⟨s, hs⟩ : ∃ s, ps[i]? = some s := ⟨_, List.getElem?_eq_getElem qi⟩
      have PD := hid (show ps.drop i = s :: ps.drop (i + 1) from by rw [List.drop_eq_getElem_cons qi]; rw [List.getElem?_eq_getElem qi] at hs; injection hs with hs; rw [hs])
      have SN := hid (NE.out s (List.mem_of_getElem? hs))
      have S0 := hid (show i = 0 → eqB s sEXPR = false from fun z => by obtain ⟨s', h1, h2⟩ := P0.out; rw [z, h1] at hs; injection hs with hs; rw [← hs]; exact h2)
      have pc : wr.cell? ⟨pa, i, none⟩ = some (.string s) := (World.cell?_of_block (a := ⟨pa, i, none⟩) (FH.out.gr.block pa rpa (fun e => hpp (by injection e)))).trans (PH.out i s hs)
      have TR := hid (TH.out.gr FH.out.gr hg)
      have lk : (k' : Int) ≤ 9000 := by have := FH.out.ps.lt; omega
      clear hs
      cases eNAME : eqB s sNAME
      · cases eKIND : eqB s sKIND
        · cases eLIT : eqB s sLIT
          · cases eEXPR : eqB s sEXPR
            · have uNAME : (s.toList == [78, 65, 77, 69]) = false := (eqL s [78, 65, 77, 69]).trans eNAME
              have uKIND : (s.toList == [75, 73, 78, 68]) = false := (eqL s [75, 73, 78, 68]).trans eKIND
              have uLIT : (s.toList == [76, 73, 84]) = false := (eqL s [76, 73, 84]).trans eLIT
              have uEXPR : (s.toList == [69, 88, 80, 82]) = false := (eqL s [69, 88, 80, 82]).trans eEXPR
              have IC0 := hid (is_any FH.out.ps s)
              have RW := hid (show R = if eqB (tw (ws.drop k')) s then formF E deep (ps.drop (i + 1)) n (ws.drop (k' + 1)) o' else ⟨none, ws.drop k', o'⟩ from by rw [← HR.out, PD.out]; simp only [formF]; rw [if_neg (by rw [eNAME]; decide), if_neg (by rw [eKIND]; decide), if_neg (by rw [eLIT]; decide), if_neg (by rw [eEXPR]; decide), List.tail_drop])
              cases y : eqB (tw (ws.drop k')) s
              · rw [y] at IC0
                go_upto_region 20 with (go_at_call 47; with_reducible refine Calls.mono IC0.out ?_; rintro e w5 ⟨rfl, b5⟩; have F6 := hid (FH.out.next b5); clear b5)
                have LR := hid (show R = ⟨none, ws.drop k', o'⟩ from by rw [RW.out, y]; rfl)
                go_upto_region 21 with fail
                obtain ⟨r0, r1, r2, r3, r4, r5, rz⟩ := F6.out.br
                have BF := hid (F6.out.br.sets (.string ⟨#[]⟩) (.string ⟨#[]⟩) (.int .i64 0) (.int .i64 0) (.int .i64 0) (.slice none 0 0))
                have PF := hid (F6.out.ps.put6 (q := w.heap.size) (by omega) (by omega) (.string ⟨#[]⟩) (.string ⟨#[]⟩) (.int .i64 0) (.int .i64 0) (.int .i64 0) (.slice none 0 0))
                have GF := hid (F6.out.gr.put6 (q := w.heap.size) (by omega) (.string ⟨#[]⟩) (.string ⟨#[]⟩) (.int .i64 0) (.int .i64 0) (.int .i64 0) (.slice none 0 0))
                go_wp2_with fail
                generalize World.setCell _ ⟨w.heap.size, 5, none⟩ _ = w6 at *
                obtain ⟨f0, f1, f2, f3, f4, f5, _⟩ := BF.out
                exact bodyPost_ret (v := .tuple #[.agg #[.string ⟨#[]⟩, .string ⟨#[]⟩, .int .i64 0, .int .i64 0, .int .i64 0, .slice none 0 0], .bool false]) (by simp [results, Tryd.results30, go_sem, f0, f1, f2, f3, f4, f5]) rfl (Rp.no (k := k) (hkk) LR.out GF.out PF.out (Nv.leaf ⟨#[]⟩ ⟨#[]⟩ 0 0 0))
              · rw [y] at IC0
                have HM := hid (show k' + 1 < ws.length from by
                  obtain ⟨z, cz⟩ := FH.out.ps.cur
                  refine FH.out.ps.more cz.at_ (Or.inr fun e => ?_)
                  rw [cz.dr] at y
                  have y : eqB z.t s = true := y
                  rw [e] at y
                  exact SN.out (eqB_eq y).symm)
                have HRn := hid (show formF E deep (ps.drop (i + 1)) n (ws.drop (k' + 1)) o' = R from by rw [RW.out, y]; rfl)
                clear y RW
                go_wp2_with (go_at_call 47; with_reducible refine Calls.mono IC0.out ?_; rintro e w5 ⟨rfl, b5⟩; have F5 := hid (FH.out.next b5); have F6 := hid (F5.out.step HM.out); have p1 := F5.out.ps.c1; have pz := F5.out.ps.fz 1; clear b5)
                go_roundg (ps.length + 1 - (i + 1))
                case measure => omega
                case rel => exact ⟨i + 1, k' + 1, o', n, sl, by omega, rfl, by rw [Int.natCast_add]; rfl, by omega, Or.inr (by omega), by omega, F6, HRn⟩
            · have uNAME : (s.toList == [78, 65, 77, 69]) = false := (eqL s [78, 65, 77, 69]).trans eNAME
              have uKIND : (s.toList == [75, 73, 78, 68]) = false := (eqL s [75, 73, 78, 68]).trans eKIND
              have uLIT : (s.toList == [76, 73, 84]) = false := (eqL s [76, 73, 84]).trans eLIT
              have uEXPR : (s.toList == [69, 88, 80, 82]) = true := (eqL s [69, 88, 80, 82]).trans eEXPR
              have HRK0 := hid (show kidR E deep (ps.drop (i + 1)) n (E (deep + 1) (ws.drop k') o') = R from by rw [← HR.out, PD.out, show s = sEXPR from eqB_eq eEXPR, formF_expr])
              have BE := hid (B6.new wr 26 (.string ⟨#[]⟩) (.string ⟨#[]⟩) (.int .i64 0) (.int .i64 0) (.int .i64 0) (.slice none 0 0))
              have HS0 : Hid (Below wr.heap.size wr (wr.alloc (.cells #[.string ⟨#[]⟩, .string ⟨#[]⟩, .int .i64 0, .int .i64 0, .int .i64 0, .slice none 0 0] 26))) := (Below.refl _ _).alloc (Nat.le_refl _) _
              have FA := hid (FH.out.next HS0.out)
              have EZ := hid (show wr.heap.size + 1 ≤ (wr.alloc (.cells #[.string ⟨#[]⟩, .string ⟨#[]⟩, .int .i64 0, .int .i64 0, .int .i64 0, .slice none 0 0] 26)).heap.size from by simp)
              have eb : q + 1 ≤ wr.heap.size := FH.out.ba
              have LT := hid FH.out.kr.lt
              have TRA := hid (TR.out.next HS0.out)
              have sL : s = ⟨#[69, 88, 80, 82]⟩ := eqB_eq eEXPR
              have klt : k < k' := by
                rcases HK.out with z | z
                · have := S0.out z; rw [eEXPR] at this; cases this
                · exact z
              have klu := FH.out.ps.lt
              have dc : ((deep + 1 : Nat) : Int) = (deep : Int) + 1 := by omega
              subst sL
              go_upto_region 18 with fail
              generalize World.alloc wr _ = w3 at *
              generalize hEg : wr.heap.size = eg at *
              have EG := hid hEg
              clear hEg
              have KC0 := hid (by have := kid_expr (p := p) (b := b) (c := c) (ws := ws) (deep + 1) EH.out TRA.out (k := k') (o := o') (by omega) (by omega) FA.out.ps; rw [dc] at this; exact this)
              generalize E (deep + 1) (ws.drop k') o' = RK at *
              obtain ⟨rt, rl, ro⟩ := RK
              go_upto_region 19 with (go_at_call 46; with_reducible refine Calls.mono (KC0.out) ?_; rintro e w5 h5; obtain ⟨g5, k5, t5, sa5, sm5, sc5, ok5, hk5, hk6, hl5, p5, rfl, hok, nv5, ht5⟩ := h5.parts; have F5 := hid (FA.out.call g5 p5); have BE5 := hid (BE.out.gr g5 (by omega)); have NV5 := hid nv5; have HL5 := hid hl5; have HO5 := hid hok; have HT5 := hid ht5; have HK6 := hid hk6; have GS5 := hid g5.size; have G5 := hid g5; clear g5 p5 nv5 hl5 hok ht5 h5 hk6; obtain ⟨x0, x1, x2, x3, x4, x5, xz⟩ := BE5.out)
              try simp only at HL5 HO5 HT5 F5
              have HL5 := HL5.out
              subst HL5
              have K7 := hid (show Kr ((((((w5.setCell ⟨eg, 0, none⟩ (.string t5.op)).setCell ⟨eg, 1, none⟩ (.string t5.name)).setCell ⟨eg, 2, none⟩ (.int .i64 (t5.kind : Nat))).setCell ⟨eg, 3, none⟩ (.int .i64 t5.n)).setCell ⟨eg, 4, none⟩ (.int .i64 (t5.pl : Nat))).setCell ⟨eg, 5, none⟩ (.slice sa5 sm5 sc5)) (q + 1) sl n.kids from FH.out.kr.keep fun g s l => (heap6 w5 eg (.string t5.op) (.string t5.name) (.int .i64 (t5.kind : Nat)) (.int .i64 t5.n) (.int .i64 (t5.pl : Nat)) (.slice sa5 sm5 sc5) g (by have := EG.out; omega)).trans ((G5.out.block g (by have := HS0.out.size; have := EG.out; have := EZ.out; omega) (fun e => by injection e with e; omega)).trans (HS0.out.block g (by have := EG.out; omega))))
              have F7 := hid (F5.out.put6 (e := eg) (by omega) (.string t5.op) (.string t5.name) (.int .i64 (t5.kind : Nat)) (.int .i64 t5.n) (.int .i64 (t5.pl : Nat)) (.slice sa5 sm5 sc5) K7.out)
              have B7 := hid (BE5.out.sets (.string t5.op) (.string t5.name) (.int .i64 (t5.kind : Nat)) (.int .i64 t5.n) (.int .i64 (t5.pl : Nat)) (.slice sa5 sm5 sc5))
              have N7 := hid (NV5.out.put6 (q := eg) (by have := EZ.out; omega) (.string t5.op) (.string t5.name) (.int .i64 (t5.kind : Nat)) (.int .i64 t5.n) (.int .i64 (t5.pl : Nat)) (.slice sa5 sm5 sc5))
              have S7 := hid (show w3.heap.size ≤ ((((((w5.setCell ⟨eg, 0, none⟩ (.string t5.op)).setCell ⟨eg, 1, none⟩ (.string t5.name)).setCell ⟨eg, 2, none⟩ (.int .i64 (t5.kind : Nat))).setCell ⟨eg, 3, none⟩ (.int .i64 t5.n)).setCell ⟨eg, 4, none⟩ (.int .i64 (t5.pl : Nat))).setCell ⟨eg, 5, none⟩ (.slice sa5 sm5 sc5)).heap.size from by rw [size6]; exact GS5.out)
              clear F5 BE5 NV5 x0 x1 x2 x3 x4 x5 xz FA BE HS0 GS5 G5 K7
              generalize World.setCell _ ⟨eg, 5, none⟩ _ = w7 at *
              have HS8 := hid (show Below w7.heap.size w7 (w7.alloc (.cells #[.string t5.op, .string t5.name, .int .i64 (t5.kind : Nat), .int .i64 t5.n, .int .i64 (t5.pl : Nat), .slice sa5 sm5 sc5] 26)) from (Below.refl _ _).alloc (Nat.le_refl _) _)
              have F8 := hid (F7.out.next HS8.out)
              have C8 := hid (B6.new w7 26 (.string t5.op) (.string t5.name) (.int .i64 (t5.kind : Nat)) (.int .i64 t5.n) (.int .i64 (t5.pl : Nat)) (.slice sa5 sm5 sc5)).nc
              have N8 := hid (show Nd (w7.alloc (.cells #[.string t5.op, .string t5.name, .int .i64 (t5.kind : Nat), .int .i64 t5.n, .int .i64 (t5.pl : Nat), .slice sa5 sm5 sc5] 26)) (fun g => q + 1 ≤ g ∧ some g ≠ sl.ownBlock) (.slice sa5 sm5 sc5) t5.kids from N7.out.keep fun g s l => ⟨⟨by have := EZ.out; omega, fun e => by have := (LT.out g e.symm).2; have := EZ.out; omega⟩, HS8.out.block g l⟩)
              obtain ⟨b0, b1, b2, b3, b4, b5, _⟩ := B7.out
              obtain ⟨n0, n1, n2, n3, n4, n5, nz⟩ := F7.out.bq
              clear F7 B7 N7 S7
              have ba8 := F8.out.ba
              cases rt with
              | none =>
                have ok0 : ok5 = false := HO5.out.symm
                subst ok0
                go_upto_region 20 with (at_builtin; refine wpList_addN rfl (.tmp 77) (.tmp 79) rfl (q + 1) sl n.kids t5 (.slice sa5 sm5 sc5) rfl F8.out.kr w7.heap.size rfl C8.out N8.out (by omega) (by first | exact ba8 | (simp; omega)) ?_; intro v2 w9 o2 g2; obtain ⟨va, vm, vc, rfl⟩ := o2.nd.sl; have F9 := hid (F8.out.kid g2 o2 hkl2); have m5 := (F8.out.bq.grown g2 (F8.out.off (by omega))).c5; have mz := (F8.out.bq.grown g2 (F8.out.off (by omega))).fz 5; clear o2 g2 n0 n1 n2 n3 n4 n5 nz b0 b1 b2 b3 b4 b5)
                generalize World.setCell _ ⟨q, 5, none⟩ _ = w10 at *
                have LR := hid (show R = ⟨none, ws.drop k5, ro⟩ from HRK0.out.symm)
                go_upto_region 21 with fail
                obtain ⟨r0, r1, r2, r3, r4, r5, rz⟩ := F9.out.br
                have BF := hid (F9.out.br.sets (.string ⟨#[]⟩) (.string ⟨#[]⟩) (.int .i64 0) (.int .i64 0) (.int .i64 0) (.slice none 0 0))
                have PF := hid (F9.out.ps.put6 (q := w.heap.size) (by omega) (by omega) (.string ⟨#[]⟩) (.string ⟨#[]⟩) (.int .i64 0) (.int .i64 0) (.int .i64 0) (.slice none 0 0))
                have GF := hid (F9.out.gr.put6 (q := w.heap.size) (by omega) (.string ⟨#[]⟩) (.string ⟨#[]⟩) (.int .i64 0) (.int .i64 0) (.int .i64 0) (.slice none 0 0))
                go_wp2_with fail
                generalize World.setCell _ ⟨w.heap.size, 5, none⟩ _ = w6 at *
                obtain ⟨f0, f1, f2, f3, f4, f5, _⟩ := BF.out
                exact bodyPost_ret (v := .tuple #[.agg #[.string ⟨#[]⟩, .string ⟨#[]⟩, .int .i64 0, .int .i64 0, .int .i64 0, .slice none 0 0], .bool false]) (by simp [results, Tryd.results30, go_sem, f0, f1, f2, f3, f4, f5]) rfl (Rp.no (k := k) (by omega) LR.out GF.out PF.out (Nv.leaf ⟨#[]⟩ ⟨#[]⟩ 0 0 0))
              | some t' =>
                have ok1 : ok5 = true := HO5.out.symm
                subst ok1
                obtain rfl := HT5.out t' rfl
                have hk6 := HK6.out rfl
                have HRn := hid (show formF E deep (ps.drop (i + 1)) (n.add t5) (ws.drop k5) ro = R from HRK0.out)
                have yk : (n.add t5).kids.length ≤ i + 1 := by cases n; simp [Tr.add, Tr.kids] at hkl ⊢; omega
                go_wp2_with (at_builtin; refine wpList_addN rfl (.tmp 77) (.tmp 79) rfl (q + 1) sl n.kids t5 (.slice sa5 sm5 sc5) rfl F8.out.kr w7.heap.size rfl C8.out N8.out (by omega) (by first | exact ba8 | (simp; omega)) ?_; intro v2 w9 o2 g2; obtain ⟨va, vm, vc, rfl⟩ := o2.nd.sl; have F9 := hid (F8.out.kid g2 o2 hkl2); have m5 := (F8.out.bq.grown g2 (F8.out.off (by omega))).c5; have mz := (F8.out.bq.grown g2 (F8.out.off (by omega))).fz 5; clear o2 g2 n0 n1 n2 n3 n4 n5 nz b0 b1 b2 b3 b4 b5)
                go_roundg (ps.length + 1 - (i + 1))
                case measure => omega
                case rel => exact ⟨i + 1, k5, ro, n.add t5, _, by omega, rfl, by rw [Int.natCast_add]; rfl, by omega, Or.inr (by omega), yk, F9, HRn⟩
          · have uNAME : (s.toList == [78, 65, 77, 69]) = false := (eqL s [78, 65, 77, 69]).trans eNAME
            have uKIND : (s.toList == [75, 73, 78, 68]) = false := (eqL s [75, 73, 78, 68]).trans eKIND
            have uLIT : (s.toList == [76, 73, 84]) = true := (eqL s [76, 73, 84]).trans eLIT
            have HRK0 := hid (show kidR E deep (ps.drop (i + 1)) n (litR (ws.drop k') o') = R from by rw [← HR.out, PD.out, show s = sLIT from eqB_eq eLIT, formF_lit])
            have BE := hid (B6.new wr 26 (.string ⟨#[]⟩) (.string ⟨#[]⟩) (.int .i64 0) (.int .i64 0) (.int .i64 0) (.slice none 0 0))
            have HS0 : Hid (Below wr.heap.size wr (wr.alloc (.cells #[.string ⟨#[]⟩, .string ⟨#[]⟩, .int .i64 0, .int .i64 0, .int .i64 0, .slice none 0 0] 26))) := (Below.refl _ _).alloc (Nat.le_refl _) _
            have FA := hid (FH.out.next HS0.out)
            have EZ := hid (show wr.heap.size + 1 ≤ (wr.alloc (.cells #[.string ⟨#[]⟩, .string ⟨#[]⟩, .int .i64 0, .int .i64 0, .int .i64 0, .slice none 0 0] 26)).heap.size from by simp)
            have eb : q + 1 ≤ wr.heap.size := FH.out.ba
            have LT := hid FH.out.kr.lt
            have TRA := hid (TR.out.next HS0.out)
            have sL : s = ⟨#[76, 73, 84]⟩ := eqB_eq eLIT
            subst sL
            go_upto_region 18 with fail
            generalize World.alloc wr _ = w3 at *
            generalize hEg : wr.heap.size = eg at *
            have EG := hid hEg
            clear hEg
            have KC0 := hid (kid_lit (p := p) (b := b) (c := c) (ws := ws) ((deep : Int) + 1) FA.out.ps)
            generalize litR (ws.drop k') o' = RK at *
            obtain ⟨rt, rl, ro⟩ := RK
            go_upto_region 19 with (go_at_call 46; with_reducible refine Calls.mono (KC0.out) ?_; rintro e w5 h5; obtain ⟨g5, k5, t5, sa5, sm5, sc5, ok5, hk5, hk6, hl5, p5, rfl, hok, nv5, ht5⟩ := h5.parts; have F5 := hid (FA.out.call g5 p5); have BE5 := hid (BE.out.gr g5 (by omega)); have NV5 := hid nv5; have HL5 := hid hl5; have HO5 := hid hok; have HT5 := hid ht5; have HK6 := hid hk6; have GS5 := hid g5.size; have G5 := hid g5; clear g5 p5 nv5 hl5 hok ht5 h5 hk6; obtain ⟨x0, x1, x2, x3, x4, x5, xz⟩ := BE5.out)
            try simp only at HL5 HO5 HT5 F5
            have HL5 := HL5.out
            subst HL5
            have K7 := hid (show Kr ((((((w5.setCell ⟨eg, 0, none⟩ (.string t5.op)).setCell ⟨eg, 1, none⟩ (.string t5.name)).setCell ⟨eg, 2, none⟩ (.int .i64 (t5.kind : Nat))).setCell ⟨eg, 3, none⟩ (.int .i64 t5.n)).setCell ⟨eg, 4, none⟩ (.int .i64 (t5.pl : Nat))).setCell ⟨eg, 5, none⟩ (.slice sa5 sm5 sc5)) (q + 1) sl n.kids from FH.out.kr.keep fun g s l => (heap6 w5 eg (.string t5.op) (.string t5.name) (.int .i64 (t5.kind : Nat)) (.int .i64 t5.n) (.int .i64 (t5.pl : Nat)) (.slice sa5 sm5 sc5) g (by have := EG.out; omega)).trans ((G5.out.block g (by have := HS0.out.size; have := EG.out; have := EZ.out; omega) (fun e => by injection e with e; omega)).trans (HS0.out.block g (by have := EG.out; omega))))
            have F7 := hid (F5.out.put6 (e := eg) (by omega) (.string t5.op) (.string t5.name) (.int .i64 (t5.kind : Nat)) (.int .i64 t5.n) (.int .i64 (t5.pl : Nat)) (.slice sa5 sm5 sc5) K7.out)
            have B7 := hid (BE5.out.sets (.string t5.op) (.string t5.name) (.int .i64 (t5.kind : Nat)) (.int .i64 t5.n) (.int .i64 (t5.pl : Nat)) (.slice sa5 sm5 sc5))
            have N7 := hid (NV5.out.put6 (q := eg) (by have := EZ.out; omega) (.string t5.op) (.string t5.name) (.int .i64 (t5.kind : Nat)) (.int .i64 t5.n) (.int .i64 (t5.pl : Nat)) (.slice sa5 sm5 sc5))
            have S7 := hid (show w3.heap.size ≤ ((((((w5.setCell ⟨eg, 0, none⟩ (.string t5.op)).setCell ⟨eg, 1, none⟩ (.string t5.name)).setCell ⟨eg, 2, none⟩ (.int .i64 (t5.kind : Nat))).setCell ⟨eg, 3, none⟩ (.int .i64 t5.n)).setCell ⟨eg, 4, none⟩ (.int .i64 (t5.pl : Nat))).setCell ⟨eg, 5, none⟩ (.slice sa5 sm5 sc5)).heap.size from by rw [size6]; exact GS5.out)
            clear F5 BE5 NV5 x0 x1 x2 x3 x4 x5 xz FA BE HS0 GS5 G5 K7
            generalize World.setCell _ ⟨eg, 5, none⟩ _ = w7 at *
            have HS8 := hid (show Below w7.heap.size w7 (w7.alloc (.cells #[.string t5.op, .string t5.name, .int .i64 (t5.kind : Nat), .int .i64 t5.n, .int .i64 (t5.pl : Nat), .slice sa5 sm5 sc5] 26)) from (Below.refl _ _).alloc (Nat.le_refl _) _)
            have F8 := hid (F7.out.next HS8.out)
            have C8 := hid (B6.new w7 26 (.string t5.op) (.string t5.name) (.int .i64 (t5.kind : Nat)) (.int .i64 t5.n) (.int .i64 (t5.pl : Nat)) (.slice sa5 sm5 sc5)).nc
            have N8 := hid (show Nd (w7.alloc (.cells #[.string t5.op, .string t5.name, .int .i64 (t5.kind : Nat), .int .i64 t5.n, .int .i64 (t5.pl : Nat), .slice sa5 sm5 sc5] 26)) (fun g => q + 1 ≤ g ∧ some g ≠ sl.ownBlock) (.slice sa5 sm5 sc5) t5.kids from N7.out.keep fun g s l => ⟨⟨by have := EZ.out; omega, fun e => by have := (LT.out g e.symm).2; have := EZ.out; omega⟩, HS8.out.block g l⟩)
            obtain ⟨b0, b1, b2, b3, b4, b5, _⟩ := B7.out
            obtain ⟨n0, n1, n2, n3, n4, n5, nz⟩ := F7.out.bq
            clear F7 B7 N7 S7
            have ba8 := F8.out.ba
            cases rt with
            | none =>
              have ok0 : ok5 = false := HO5.out.symm
              subst ok0
              go_upto_region 20 with (at_builtin; refine wpList_addN rfl (.tmp 77) (.tmp 79) rfl (q + 1) sl n.kids t5 (.slice sa5 sm5 sc5) rfl F8.out.kr w7.heap.size rfl C8.out N8.out (by omega) (by first | exact ba8 | (simp; omega)) ?_; intro v2 w9 o2 g2; obtain ⟨va, vm, vc, rfl⟩ := o2.nd.sl; have F9 := hid (F8.out.kid g2 o2 hkl2); have m5 := (F8.out.bq.grown g2 (F8.out.off (by omega))).c5; have mz := (F8.out.bq.grown g2 (F8.out.off (by omega))).fz 5; clear o2 g2 n0 n1 n2 n3 n4 n5 nz b0 b1 b2 b3 b4 b5)
              generalize World.setCell _ ⟨q, 5, none⟩ _ = w10 at *
              have LR := hid (show R = ⟨none, ws.drop k5, ro⟩ from HRK0.out.symm)
              go_upto_region 21 with fail
              obtain ⟨r0, r1, r2, r3, r4, r5, rz⟩ := F9.out.br
              have BF := hid (F9.out.br.sets (.string ⟨#[]⟩) (.string ⟨#[]⟩) (.int .i64 0) (.int .i64 0) (.int .i64 0) (.slice none 0 0))
              have PF := hid (F9.out.ps.put6 (q := w.heap.size) (by omega) (by omega) (.string ⟨#[]⟩) (.string ⟨#[]⟩) (.int .i64 0) (.int .i64 0) (.int .i64 0) (.slice none 0 0))
              have GF := hid (F9.out.gr.put6 (q := w.heap.size) (by omega) (.string ⟨#[]⟩) (.string ⟨#[]⟩) (.int .i64 0) (.int .i64 0) (.int .i64 0) (.slice none 0 0))
              go_wp2_with fail
              generalize World.setCell _ ⟨w.heap.size, 5, none⟩ _ = w6 at *
              obtain ⟨f0, f1, f2, f3, f4, f5, _⟩ := BF.out
              exact bodyPost_ret (v := .tuple #[.agg #[.string ⟨#[]⟩, .string ⟨#[]⟩, .int .i64 0, .int .i64 0, .int .i64 0, .slice none 0 0], .bool false]) (by simp [results, Tryd.results30, go_sem, f0, f1, f2, f3, f4, f5]) rfl (Rp.no (k := k) (by omega) LR.out GF.out PF.out (Nv.leaf ⟨#[]⟩ ⟨#[]⟩ 0 0 0))
            | some t' =>
              have ok1 : ok5 = true := HO5.out.symm
              subst ok1
              obtain rfl := HT5.out t' rfl
              have hk6 := HK6.out rfl
              have HRn := hid (show formF E deep (ps.drop (i + 1)) (n.add t5) (ws.drop k5) ro = R from HRK0.out)
              have yk : (n.add t5).kids.length ≤ i + 1 := by cases n; simp [Tr.add, Tr.kids] at hkl ⊢; omega
              go_wp2_with (at_builtin; refine wpList_addN rfl (.tmp 77) (.tmp 79) rfl (q + 1) sl n.kids t5 (.slice sa5 sm5 sc5) rfl F8.out.kr w7.heap.size rfl C8.out N8.out (by omega) (by first | exact ba8 | (simp; omega)) ?_; intro v2 w9 o2 g2; obtain ⟨va, vm, vc, rfl⟩ := o2.nd.sl; have F9 := hid (F8.out.kid g2 o2 hkl2); have m5 := (F8.out.bq.grown g2 (F8.out.off (by omega))).c5; have mz := (F8.out.bq.grown g2 (F8.out.off (by omega))).fz 5; clear o2 g2 n0 n1 n2 n3 n4 n5 nz b0 b1 b2 b3 b4 b5)
              go_roundg (ps.length + 1 - (i + 1))
              case measure => omega
              case rel => exact ⟨i + 1, k5, ro, n.add t5, _, by omega, rfl, by rw [Int.natCast_add]; rfl, by omega, Or.inr (by omega), yk, F9, HRn⟩
        · have uNAME : (s.toList == [78, 65, 77, 69]) = false := (eqL s [78, 65, 77, 69]).trans eNAME
          have uKIND : (s.toList == [75, 73, 78, 68]) = true := (eqL s [75, 73, 78, 68]).trans eKIND
          obtain ⟨nop, nnm, nkd, nn, nat_, nks⟩ := n
          have FN := hid (FH.out.num (nkd : Nat))
          obtain ⟨n0, n1, n2, n3, n4, n5, nz⟩ := FH.out.bq
          simp only [Tr.op, Tr.name, Tr.kind, Tr.n, Tr.pl] at n0 n1 n2 n3 n4
          go_upto_region 14 with fail
          generalize World.setCell _ ⟨q, 3, none⟩ _ = w4 at *
          have TR4 := hid (TH.out.gr FN.out.gr hg)
          have KC0 := hid (pkind_any FN.out.ps TR4.out)
          clear n0 n1 n2 n3 n4 n5 nz
          by_cases y : kindF (tw (ws.drop k')) = 0
          · go_upto_region 20 with (go_at_call 45; with_reducible refine Calls.mono KC0.out ?_; rintro e w5 ⟨g5, h5⟩; rcases h5 with ⟨_, rfl, p5⟩ | ⟨ny, _⟩; rotate_left; exact absurd y ny; have F5 := hid (FN.out.call g5 p5); have F6 := hid (F5.out.kind 0); clear g5 p5; obtain ⟨n0, n1, n2, n3, n4, n5, nz⟩ := F5.out.bq)
            generalize World.setCell _ ⟨q, 2, none⟩ _ = w7 at *
            have LR := hid (show R = ⟨none, ws.drop k', o'⟩ from by rw [← HR.out, PD.out]; simp only [formF]; rw [if_neg (by rw [eNAME]; decide), if_pos eKIND, if_pos y])
            go_upto_region 21 with fail
            obtain ⟨r0, r1, r2, r3, r4, r5, rz⟩ := F6.out.br
            have BF := hid (F6.out.br.sets (.string ⟨#[]⟩) (.string ⟨#[]⟩) (.int .i64 0) (.int .i64 0) (.int .i64 0) (.slice none 0 0))
            have PF := hid (F6.out.ps.put6 (q := w.heap.size) (by omega) (by omega) (.string ⟨#[]⟩) (.string ⟨#[]⟩) (.int .i64 0) (.int .i64 0) (.int .i64 0) (.slice none 0 0))
            have GF := hid (F6.out.gr.put6 (q := w.heap.size) (by omega) (.string ⟨#[]⟩) (.string ⟨#[]⟩) (.int .i64 0) (.int .i64 0) (.int .i64 0) (.slice none 0 0))
            go_wp2_with fail
            generalize World.setCell _ ⟨w.heap.size, 5, none⟩ _ = w6 at *
            obtain ⟨f0, f1, f2, f3, f4, f5, _⟩ := BF.out
            exact bodyPost_ret (v := .tuple #[.agg #[.string ⟨#[]⟩, .string ⟨#[]⟩, .int .i64 0, .int .i64 0, .int .i64 0, .slice none 0 0], .bool false]) (by simp [results, Tryd.results30, go_sem, f0, f1, f2, f3, f4, f5]) rfl (Rp.no (k := k) (hkk) LR.out GF.out PF.out (Nv.leaf ⟨#[]⟩ ⟨#[]⟩ 0 0 0))
          · have HRn := hid (show formF E deep (ps.drop (i + 1)) (.nd nop nnm (kindF (tw (ws.drop k'))) (nkd : Nat) nat_ nks) (ws.drop (k' + 1)) o' = R from by rw [← HR.out, PD.out]; simp only [formF]; rw [if_neg (by rw [eNAME]; decide), if_pos eKIND, if_neg y, List.tail_drop]; rfl)
            have yk : (Tr.nd nop nnm (kindF (tw (ws.drop k'))) (nkd : Nat) nat_ nks).kids.length ≤ i + 1 := by simp [Tr.kids] at hkl ⊢; omega
            generalize kindF (tw (ws.drop k')) = T at *
            go_wp2_with (go_at_call 45; with_reducible refine Calls.mono KC0.out ?_; rintro e w5 ⟨g5, h5⟩; rcases h5 with ⟨ny, _⟩ | ⟨_, _, rfl, p5⟩; exact absurd ny y; have F5 := hid (FN.out.call g5 p5); have F6 := hid (F5.out.kind T); clear g5 p5; obtain ⟨n0, n1, n2, n3, n4, n5, nz⟩ := F5.out.bq)
            go_roundg (ps.length + 1 - (i + 1))
            case measure => omega
            case rel => exact ⟨i + 1, k' + 1, o', _, sl, by omega, rfl, by rw [Int.natCast_add]; rfl, by omega, Or.inr (by omega), yk, F6, HRn⟩
      · have uNAME : (s.toList == [78, 65, 77, 69]) = true := (eqL s [78, 65, 77, 69]).trans eNAME
        have NC0 := hid (pname_any FH.out.ps)
        by_cases y : kw (ws.drop k') = 1
        · have HRn := hid (show formF E deep (ps.drop (i + 1)) (n.setName (tw (ws.drop k'))) (ws.drop (k' + 1)) o' = R from by rw [← HR.out, PD.out]; simp only [formF]; rw [if_pos eNAME, if_pos y, List.tail_drop])
          have yk : (n.setName (tw (ws.drop k'))).kids.length ≤ i + 1 := by cases n; simp [Tr.setName, Tr.kids] at hkl ⊢; omega
          generalize tw (ws.drop k') = T at *
          go_wp2_with (go_at_call 44; with_reducible refine Calls.mono NC0.out ?_; rintro e w5 ⟨g5, h5⟩; rw [if_pos y] at h5; obtain ⟨rfl, p5⟩ := h5; have F5 := hid (FH.out.call g5 p5); have F6 := hid (F5.out.name T); clear g5 p5; obtain ⟨n0, n1, n2, n3, n4, n5, nz⟩ := F5.out.bq)
          go_roundg (ps.length + 1 - (i + 1))
          case measure => omega
          case rel => exact ⟨i + 1, k' + 1, o', _, sl, by omega, rfl, by rw [Int.natCast_add]; rfl, by omega, Or.inr (by omega), yk, F6, HRn⟩
        · go_upto_region 20 with (go_at_call 44; with_reducible refine Calls.mono NC0.out ?_; rintro e w5 ⟨g5, h5⟩; rw [if_neg y] at h5; obtain ⟨rfl, p5⟩ := h5; have F5 := hid (FH.out.call g5 p5); have F6 := hid (F5.out.name ⟨#[]⟩); clear g5 p5; obtain ⟨n0, n1, n2, n3, n4, n5, nz⟩ := F5.out.bq)
          generalize World.setCell _ ⟨q, 1, none⟩ _ = w7 at *
          have LR := hid (show R = ⟨none, ws.drop k', o'⟩ from by rw [← HR.out, PD.out]; simp only [formF]; rw [if_pos eNAME, if_neg y])
          go_upto_region 21 with fail
          obtain ⟨r0, r1, r2, r3, r4, r5, rz⟩ := F6.out.br
          have BF := hid (F6.out.br.sets (.string ⟨#[]⟩) (.string ⟨#[]⟩) (.int .i64 0) (.int .i64 0) (.int .i64 0) (.slice none 0 0))
          have PF := hid (F6.out.ps.put6 (q := w.heap.size) (by omega) (by omega) (.string ⟨#[]⟩) (.string ⟨#[]⟩) (.int .i64 0) (.int .i64 0) (.int .i64 0) (.slice none 0 0))
          have GF := hid (F6.out.gr.put6 (q := w.heap.size) (by omega) (.string ⟨#[]⟩) (.string ⟨#[]⟩) (.int .i64 0) (.int .i64 0) (.int .i64 0) (.slice none 0 0))
          go_wp2_with fail
          generalize World.setCell _ ⟨w.heap.size, 5, none⟩ _ = w6 at *
          obtain ⟨f0, f1, f2, f3, f4, f5, _⟩ := BF.out
          exact bodyPost_ret (v := .tuple #[.agg #[.string ⟨#[]⟩, .string ⟨#[]⟩, .int .i64 0, .int .i64 0, .int .i64 0, .slice none 0 0], .bool false]) (by simp [results, Tryd.results30, go_sem, f0, f1, f2, f3, f4, f5]) rfl (Rp.no (k := k) (hkk) LR.out GF.out PF.out (Nv.leaf ⟨#[]⟩ ⟨#[]⟩ 0 0 0))
    · have qe : i = ps.length := by omega
      have q' : ¬ (i : Int) < (ps.length : Int) := by omega
      have LR := hid (show R = ⟨some n, ws.drop k', o'⟩ from by rw [← HR.out, qe, List.drop_length]; rfl)
      have klt : k < k' := by
        rcases HK.out with z | z
        · obtain ⟨s0, h1, _⟩ := P0.out
          have := (List.getElem?_eq_some_iff.1 h1).1
          omega
        · exact z
      have NS := FH.out.kr.nd.sl
      obtain ⟨sa, sm, sc, rfl⟩ := NS
      go_upto_region 23 with fail
      obtain ⟨n0, n1, n2, n3, n4, n5, _⟩ := FH.out.bq
      obtain ⟨r0, r1, r2, r3, r4, r5, rz⟩ := FH.out.br
      have BF := hid (FH.out.br.sets (.string n.op) (.string n.name) (.int .i64 (n.kind : Nat)) (.int .i64 n.n) (.int .i64 (n.pl : Nat)) (.slice sa sm sc))
      have PF := hid (FH.out.ps.put6 (q := w.heap.size) (by omega) (by omega) (.string n.op) (.string n.name) (.int .i64 (n.kind : Nat)) (.int .i64 n.n) (.int .i64 (n.pl : Nat)) (.slice sa sm sc))
      have GF := hid (FH.out.gr.put6 (q := w.heap.size) (by omega) (.string n.op) (.string n.name) (.int .i64 (n.kind : Nat)) (.int .i64 n.n) (.int .i64 (n.pl : Nat)) (.slice sa sm sc))
      have NF := hid (FH.out.yes.put6 (q := w.heap.size) (by omega) (.string n.op) (.string n.name) (.int .i64 (n.kind : Nat)) (.int .i64 n.n) (.int .i64 (n.pl : Nat)) (.slice sa sm sc))
      go_wp2_with fail
      generalize World.setCell _ ⟨w.heap.size, 5, none⟩ _ = w6 at *
      obtain ⟨f0, f1, f2, f3, f4, f5, _⟩ := BF.out
      exact bodyPost_ret (v := .tuple #[.agg #[.string n.op, .string n.name, .int .i64 (n.kind : Nat), .int .i64 n.n, .int .i64 (n.pl : Nat), .slice sa sm sc], .bool true]) (by simp [results, Tryd.results30, go_sem, f0, f1, f2, f3, f4, f5]) rfl (Rp.yes klt LR.out GF.out PF.out ⟨_, rfl, NF.out.keep fun g s l => ⟨by omega, rfl⟩⟩)
end Go.Proofs.YtobolipjgkabhaaDoor
