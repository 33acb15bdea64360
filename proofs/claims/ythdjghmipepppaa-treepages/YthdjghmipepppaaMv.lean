/- slices.Backward over steps: the iterator's contract. What stands while one climbs. climb: up from a leaf (endings). What the walks over Find, Put and Drop ask. A range, taken in bit by bit. -/
import Derived.Test.YthdjghmipepppaaMu
import Derived.RangeFuncNested
import Derived.RangeFuncBound
import Derived.RangeFuncCalls
import Derived.RangeFuncLeaves
import Derived.Shelf.Abstract
import Derived.Shelf.RegionOpen
import Derived.OwnWalkIn
import Derived.TacticsInMore
import Derived.LoopNIn
import Derived.LoopIn
import Derived.OrdersIn
namespace Go.Proofs.Ythdjghmipepppaa
open Go.RowKit Go.Shelf
set_option linter.unusedVariables false
set_option linter.unusedSimpArgs false
attribute [local go_sem] Oper.semAt_some

theorem op_round {l n : Nat} {P : Program} {o : Oper} {a : Act} {w : World} {K : Act → World → Prop} {Q : Exit → Act → World → Prop} (hd : ∀ c, o.op ≠ .defer c) (hQ : ¬ LetsOut Q) (h : o.wp P a w K Q ∨ (o.asks P a w ∧ LetsOut Q)) : o.wpIn (Fence.wide.inRound l) n P a w K Q := by
  rcases h with h | h
  · refine ⟨fun _ _ => trivial, ?_⟩
    rw [show (Fence.wide.inRound l).round = some l from rfl, Oper.semAt_some l a.eval o hd]
    unfold Oper.wp at h
    generalize (execOp a.eval o).run P w = r at *
    cases r with
    | ok x w' =>
      cases x with
      | value v => exact h
      | skip => exact h
      | «defer» d => exact h
      | enter f args => exact ⟨(fun e => (by cases e)), CallsIn.inRound l (callsIn_wide.2 h)⟩
      | row row args =>
        refine ⟨(fun e => (by cases e)), fun c cs _ => ?_⟩
        obtain ⟨v, w'', r, s⟩ := h c cs
        exact ⟨v, w'', r, stepsIn_wide.2 s⟩
      | _ => first | exact h | exact h.elim | exact (h : False).elim
    | halt x w' => cases x <;> first | exact h | exact h.elim
  · exact absurd h.2 hQ
theorem any_round {l n : Nat} {P : Program} {md : Region.Mode} {ops : Array Oper} {Q : Exit → Act → World → Prop} (hd : ∀ (i : Nat) o, ops[i]? = some o → ∀ c, o.op ≠ .defer c) (hQ : ¬ LetsOut Q) : ∀ (fuel : Nat) (listed : Array Bool) (a : Act) (w : World), wpAny P md ops Q fuel listed a w → wpAnyIn (Fence.wide.inRound l) n P md ops Q fuel listed a w
  | 0, _, _, _, h => h
  | fuel + 1, listed, a, w, h => by
    refine ⟨h.1, fun i hi => ?_⟩
    have hh := wpOp_mono (fun a' w' h' => any_round (l := l) (n := n) hd hQ fuel _ a' w' h') (h.2 i hi)
    unfold wpOpIn
    unfold wpOp at hh
    cases ho : ops[i]? with
    | none => simpa [ho] using hh
    | some o =>
      simp only [ho] at hh
      show if Region.wanted o (yielded ops a.tmps) = true then _ else _
      split
      · rename_i hw
        rw [if_pos hw] at hh
        exact op_round (hd i o ho) hQ hh
      · rename_i hw
        rw [if_neg hw] at hh
        exact ⟨fun _ _ => trivial, hh⟩
def noDefer (ops : Array Oper) : Bool := ops.all fun o => match o.op with | .defer _ => false | _ => true
theorem noDefer_spec {ops : Array Oper} (h : noDefer ops = true) : ∀ (i : Nat) o, ops[i]? = some o → ∀ c, o.op ≠ .defer c := by
  intro i o ho c e
  have := Array.all_eq_true.1 h i (Array.getElem?_eq_some_iff.1 ho).1
  rw [(Array.getElem?_eq_some_iff.1 ho).2] at this
  rw [e] at this
  simp at this
/-- A drawn region in a round: the plain walk over it serves. -/
theorem region_round {l n id : Nat} {P : Program} {ops : Array Oper} {Q : Exit → Act → World → Prop} {S : World → Prop} {a : Act} {w : World} (hm : P.follows .mixedOrders = true) (hQ : ¬ LetsOut Q) (hd : noDefer ops = true) (hS : S w.drew)
    (h : S w.drew → wpAnyH P .any ops Q S ops.size (Array.replicate ops.size false) a w.drew) : (Code.region id ops true).wpIn (Fence.wide.inRound l) n P Q a w :=
  wpIn_region_any hm (any_round (noDefer_spec hd) hQ _ _ _ _ (wpAny_of_held _ _ _ _ (h hS)))
/-- Two blocks are as they were. -/
def Keep2 (x y : Nat) (A B : World) : Prop := B.heap[x]? = A.heap[x]? ∧ B.heap[y]? = A.heap[y]?
theorem Keep2.refl (x y : Nat) (A : World) : Keep2 x y A A := ⟨rfl, rfl⟩
theorem Keep2.trans {x y : Nat} {A B C : World} (h : Keep2 x y A B) (k : Keep2 x y B C) : Keep2 x y A C := ⟨k.1.trans h.1, k.2.trans h.2⟩
theorem Keep2.put {x y : Nat} {w : World} (hx : x < w.heap.size) (hy : y < w.heap.size) (W : World) (l : Nat) (o o' : Obj) (hl : w.heap.size ≤ l) (h : W.heap[l]? = some o) (_ : o.isCells = false) (_ : o.isWalk = false) : Keep2 x y W (W.putObj l o') :=
  ⟨World.putObj_heap_other (by omega), World.putObj_heap_other (by omega)⟩
theorem Keep2.cx {x y : Nat} {A B : World} (h : Keep2 x y A B) (o : Nat) : B.cell? ⟨x, o, none⟩ = A.cell? ⟨x, o, none⟩ := World.cell?_of_block (w := A) (a := ⟨x, o, none⟩) h.1
theorem Keep2.cy {x y : Nat} {A B : World} (h : Keep2 x y A B) (o : Nat) : B.cell? ⟨y, o, none⟩ = A.cell? ⟨y, o, none⟩ := World.cell?_of_block (w := A) (a := ⟨y, o, none⟩) h.2

abbrev Ix (n : Nat) := { i : Nat // i < n }
/-- The last k, the last one first. -/
def backs (n : Nat) : Nat → List (Ix n)
  | 0 => []
  | k + 1 => if h : k < n then backs n k ++ [⟨n - 1 - k, by omega⟩] else backs n k
theorem backs_succ {n k : Nat} (h : k < n) : backs n (k + 1) = backs n k ++ [⟨n - 1 - k, by omega⟩] := by rw [backs, dif_pos h]
theorem backs_len {n : Nat} : ∀ {k : Nat}, k ≤ n → (backs n k).length = k
  | 0, _ => rfl
  | k + 1, h => by rw [backs_succ (by omega), List.length_append, backs_len (by omega)]; rfl
/-- A step as a value. -/
def stV (x : V4 × Nat) : Value := .agg #[.bool x.1.lf, .slice x.1.ka x.1.kn x.1.kc, .slice x.1.va x.1.vn x.1.vc, .slice x.1.ia x.1.im x.1.ic, .int .i64 (x.2 : Nat)]
def encT (n : Nat) (A : Nat → V4 × Nat) (x : Ix n) : Array Value := #[.int .i64 (x.1 : Nat), stV (A x.1)]
/-- Where steps lie. -/
structure Lay (W : World) (b : Nat) (len : Nat) (A : Nat → V4 × Nat) : Prop where
  c0 : ∀ j, j < len → W.cell? ⟨b, j * 5, none⟩ = some (.bool (A j).1.lf)
  c1 : ∀ j, j < len → W.cell? ⟨b, j * 5 + 1, none⟩ = some (.slice (A j).1.ka (A j).1.kn (A j).1.kc)
  c2 : ∀ j, j < len → W.cell? ⟨b, j * 5 + 2, none⟩ = some (.slice (A j).1.va (A j).1.vn (A j).1.vc)
  c3 : ∀ j, j < len → W.cell? ⟨b, j * 5 + 3, none⟩ = some (.slice (A j).1.ia (A j).1.im (A j).1.ic)
  c4 : ∀ j, j < len → W.cell? ⟨b, j * 5 + 4, none⟩ = some (.int .i64 ((A j).2 : Nat))
theorem Lay.kept {W W' : World} {b len : Nat} {A : Nat → V4 × Nat} (h : Lay W b len A) (k : W'.heap[b]? = W.heap[b]?) : Lay W' b len A :=
  ⟨fun j hj => (World.cell?_of_block (w := W) (a := ⟨b, _, none⟩) k).trans (h.c0 j hj), fun j hj => (World.cell?_of_block (w := W) (a := ⟨b, _, none⟩) k).trans (h.c1 j hj), fun j hj => (World.cell?_of_block (w := W) (a := ⟨b, _, none⟩) k).trans (h.c2 j hj), fun j hj => (World.cell?_of_block (w := W) (a := ⟨b, _, none⟩) k).trans (h.c3 j hj), fun j hj => (World.cell?_of_block (w := W) (a := ⟨b, _, none⟩) k).trans (h.c4 j hj)⟩

set_option maxRecDepth 100000 in
set_option maxHeartbeats 2000000 in
theorem backT1_in (n : Nat) (hn : 1 ≤ n) (l Bs b len cap : Nat) (ad : Option Addr) (had : 0 < len → ad = some ⟨b, 0, none⟩) (A : Nat → V4 × Nat) (hreach : len ≤ 100000) (J Jx : List (Ix len) → World → Prop)
    (hY : ∀ pre x W, J pre W → pre.length < len → YieldAt Fence.wide (n - 1) Try.prog l (encT len A x) W fun e W' =>
      (e = .returned (.bool true) ∧ J (pre ++ [x]) W' ∧ Keep2 Bs b W W') ∨ (e = .returned (.bool false) ∧ Jx (pre ++ [x]) W'))
    (W : World) (hBs : W.cell? ⟨Bs, 0, none⟩ = some (.slice ad len cap)) (hc : Lay W b len A) (h0 : J [] W) :
    CallsIn Fence.wide n Try.prog 80 #[.func (.yield l) #[] #[], .pointer (some ⟨Bs, 0, none⟩)] W fun e W' => (∃ v, e = .returned v) ∧
      ((∃ ys, ys = backs len len ∧ J ys W') ∨ (∃ pre, (∃ k, k ≤ len ∧ pre = backs len k) ∧ Jx pre W')) := by
  have hl' : (len : Int) ≤ 100000 := by omega
  have HC : Hid _ := hc
  have HAD : Hid _ := had
  clear hc had
  refine callsIn_of_wp Try.func80 rfl trivial ?_ rfl
  simp only [Try.ntmps80, List.size_toArray, List.length_cons, List.length_nil, Nat.reduceAdd, Nat.reduceSub, Array.replicate_succ, Array.replicate_zero, List.push_toArray, List.append_toArray, List.nil_append, List.cons_append]
  gi_wp2
  gi_loopw [3] (fun i wr => ∃ k : Nat, k ≤ len ∧ i = .int .i64 ((len : Int) - 1 - (k : Int)) ∧ J (backs len k) wr ∧ Keep2 Bs b W wr)
    (fun i _ => (intOf i + 1).toNat)
  case atStart => exact ⟨0, Nat.zero_le _, by simp, h0, Keep2.refl _ _ _⟩
  case round =>
    obtain ⟨k, hk, rfl, hJs, hnx⟩ := hrel
    by_cases hlt : k < len
    · have ead := HAD.out (by omega)
      subst ead
      have hBs' : wr.cell? ⟨Bs, 0, none⟩ = some (.slice (some ⟨b, 0, none⟩) len cap) := (hnx.cx 0).trans hBs
      obtain ⟨m, hm⟩ : ∃ m, m = len - 1 - k := ⟨_, rfl⟩
      have em : (len : Int) - 1 - (k : Int) = (m : Int) := by omega
      have hm1 : m < len := by omega
      have y0 := (hnx.cy _).trans (HC.out.c0 m hm1)
      have y1 := (hnx.cy _).trans (HC.out.c1 m hm1)
      have y2 := (hnx.cy _).trans (HC.out.c2 m hm1)
      have y3 := (hnx.cy _).trans (HC.out.c3 m hm1)
      have y4 := (hnx.cy _).trans (HC.out.c4 m hm1)
      obtain ⟨fn, tmps, assign, body, hy, hR⟩ := hY _ ⟨m, hm1⟩ wr hJs (by rw [backs_len hk]; exact hlt)
      dsimp only [encT] at hy
      rw [em]
      have JJ : Hid (backs len (k + 1) = backs len k ++ [⟨m, hm1⟩]) := by
        show _ = _
        rw [backs_succ hlt]
        simp [hm]
      have MM : Hid ((len : Int) - 1 - (k : Int) = (m : Int)) := em
      clear em hm
      generalize hv : A m = x at *
      obtain ⟨⟨lf, ka, kn, kc, va, vn, vc, ia, im, ic⟩, xi⟩ := x
      dsimp only [stV] at y0 y1 y2 y3 y4 hy
      clear hv
      gi_wp2
      refine hR.mono ?_
      rintro e W3 (⟨rfl, hJ3, hk3⟩ | ⟨rfl, hJx3⟩)
      · gi_wp2
        go_roundw
        case rel => exact ⟨k + 1, by omega, by have := MM.out; congr 1; omega, by rw [JJ.out]; exact hJ3, hnx.trans hk3⟩
        case measure => simp [intOf]
      · gi_wp2
        refine bodyPost_ret (results_none rfl _ _ _) rfl ?_
        exact ⟨⟨_, rfl⟩, .inr ⟨_, ⟨k + 1, by omega, JJ.out.symm⟩, hJx3⟩⟩
    · obtain rfl : k = len := by omega
      have e1 : (k : Int) - 1 - (k : Int) = -1 := by omega
      rw [e1]
      gi_wp2
      go_end0
      first | exact ⟨⟨_, rfl⟩, .inl hJs⟩ | exact ⟨⟨_, rfl⟩, .inl ⟨_, rfl, hJs⟩⟩
set_option maxHeartbeats 1000000 in
theorem backT_any (a : Option Addr) (len cap : Nat) (w : World) :
    Calls Try.prog 60 #[.slice a len cap] w fun e w' => e = .returned (.func (.func 80) #[] #[.pointer (some ⟨w.heap.size, 0, none⟩)]) ∧ w.alloc (.cells #[.slice a len cap] 83) = w' := by
  go_enter Try.func60, Try.ntmps60
  go_wp2
  go_ret
  exact ⟨rfl, rfl⟩
theorem backT_stops (n : Nat) (hn : 1 ≤ n) (Bs b len cap : Nat) (ad : Option Addr) (had : 0 < len → ad = some ⟨b, 0, none⟩) (A : Nat → V4 × Nat) (hreach : len ≤ 100000) (w : World) (hBs : Bs < w.heap.size) (hb : b < w.heap.size)
    (hB : w.cell? ⟨Bs, 0, none⟩ = some (.slice ad len cap)) (hc : Lay w b len A) :
    SeqStopsK Fence.wide n Try.prog 80 #[.pointer (some ⟨Bs, 0, none⟩)] (encT len A) (Keep2 Bs b) (fun ys => ys = backs len len) (fun pre => ∃ k, k ≤ len ∧ pre = backs len k) len w := fun l J Jx W hW _ _ hY h0 =>
  backT1_in n hn l Bs b len cap ad had A hreach J Jx hY W ((hW.cell (p := ⟨Bs, 0, none⟩) hBs).trans hB) (hc.kept (hW.block b hb)) h0

end Go.Proofs.Ythdjghmipepppaa

namespace Go.Proofs.Ythdjghmipepppaa
open Go.RowKit Go.Shelf
set_option linter.unusedVariables false
set_option linter.unusedSimpArgs false

/-- A block that is no cells. -/
theorem nc_cell {W : World} {r : Nat} {o : Obj} (h : W.heap[r]? = some o) (ho : o.isCells = false) (i : Nat) : W.cell? ⟨r, i, none⟩ = none := by
  cases o with
  | cells cs t fr => cases ho
  | _ => simp [World.cell?, h]
theorem nc_nt {W : World} {r : Nat} {o : Obj} (h : W.heap[r]? = some o) (ho : o.isCells = false) : NT W r := fun i u hu => by rw [nc_cell h ho] at hu; cases hu
theorem nc_ne {W : World} {r b i : Nat} {o : Obj} {u : Value} (h : W.heap[r]? = some o) (ho : o.isCells = false) (hb : W.cell? ⟨b, i, none⟩ = some u) : b ≠ r := fun e => by subst e; rw [nc_cell h ho] at hb; cases hb
/-- One cell in a block of its own. -/
structure Bc (w : World) (A : Nat) (c0 : Value) : Prop where
  a0 : w.cell? ⟨A, 0, none⟩ = some c0
  past : ∀ i, 1 ≤ i → w.cell? ⟨A, i, none⟩ = none
  fz : ∀ i, w.frozen? ⟨A, i, none⟩ = false
theorem Bc.new (w : World) (c0 : Value) (t : TypeId) : Bc (w.alloc (.cells #[c0] t)) w.heap.size c0 :=
  ⟨by simp, fun i hi => by simp; omega, fun i => World.frozen?_alloc_new _ _ _ i⟩
theorem Bc.lt {w : World} {A : Nat} {c0 : Value} (h : Bc w A c0) : A < w.heap.size := World.block_lt_of_cell? _ _ h.a0
theorem Bc.kept {w w' : World} {A : Nat} {c0 : Value} (h : Bc w A c0) (k : w'.heap[A]? = w.heap[A]?) : Bc w' A c0 :=
  ⟨(World.cell?_of_block (w := w) (a := ⟨A, 0, none⟩) k).trans h.a0, fun i hi => (World.cell?_of_block (w := w) (a := ⟨A, i, none⟩) k).trans (h.past i hi), frozen_kept h.fz k⟩
theorem Bc.below {w w' : World} {A : Nat} {c0 : Value} (h : Bc w A c0) (b : Below w.heap.size w w') : Bc w' A c0 := h.kept (b.block A h.lt)
theorem Bc.nt {w : World} {A : Nat} {c0 : Value} (h : Bc w A c0) (n0 : nt c0) : NT w A := by
  intro i u hu
  rcases Nat.eq_zero_or_pos i with q | q
  · subst q; rw [h.a0] at hu; cases hu; exact n0
  · rw [h.past i q] at hu; cases hu
theorem Bc.put {w : World} {A : Nat} {c0 : Value} (h : Bc w A c0) (v : Value) : Bc (w.setCell ⟨A, 0, none⟩ v) A v ∧ w.grownBy (w.setCell ⟨A, 0, none⟩ v) (some A) := by
  have ne : ∀ i : Nat, i ≠ 0 → (⟨A, 0, none⟩ : Addr) ≠ ⟨A, i, none⟩ := fun i h k => by injection k with _ k; exact h k.symm
  refine ⟨⟨World.cell?_setCell_same _ _ _ h.a0, fun i hi => ?_, fun i => by simp [h.fz]⟩, grownBy_setCell w A 0 v⟩
  rw [World.cell?_setCell_other _ _ _ _ (ne i (by omega))]
  exact h.past i hi
theorem nt_u64z : nt (.int .u64 0) := ⟨fun s => by simp, fun z h => by cases h; rfl⟩
theorem nt_iface (P : Nat) : nt (ifP P) := ⟨fun s => by simp [ifP], fun z h => by cases h⟩
theorem nt_func (f : Nat) : nt (.func (.func f) #[] #[]) := ⟨fun s => by simp, fun z h => by cases h⟩

/-- The boxes of climb, from A on and from E on. -/
structure Cb (W : World) (A E P sf : Nat) (stv : Value) : Prop where
  b4 : Bc W A (ifP P)
  b7 : Bc W (A + 2) (.func (.func sf) #[] #[])
  b8 : Bc W (A + 3) (.int .u64 0)
  b9 : Bc W (A + 4) (.int .i64 0)
  bs : Bc W (E + 2) stv
theorem Cb.kept {W W' : World} {A E P sf : Nat} {stv : Value} (h : Cb W A E P sf stv) (k : ∀ b, (A ≤ b ∧ b ≤ A + 4) ∨ b = E + 2 → W'.heap[b]? = W.heap[b]?) : Cb W' A E P sf stv :=
  ⟨h.b4.kept (k _ (Or.inl ⟨Nat.le_refl _, by omega⟩)), h.b7.kept (k _ (Or.inl ⟨by omega, by omega⟩)), h.b8.kept (k _ (Or.inl ⟨by omega, by omega⟩)), h.b9.kept (k _ (Or.inl ⟨by omega, by omega⟩)), h.bs.kept (k _ (Or.inr rfl))⟩
/-- The row of a shelf lies in no box. -/
def Nbx (sl' sl : Value) (A E : Nat) : Prop := ∀ B, A ≤ B → (B ≤ A + 4 ∨ (E ≤ B ∧ B ≤ E + 2)) → sl'.ownBlock ≠ some B
/-- So far all is well. -/
structure Ok7 (w W : World) (P : Nat) (sl : Value) (ill n A E : Nat) (q : List Pg × Run) (k : Nat) (kk ii sl' : Value) (vs' : List V4) (n' : Nat) : Prop where
  r : Bd2 W E kk ii
  e : Bc W (E + 1) (.int .i64 0)
  rv : RunV W kk ii q.2
  sh : Shf W P sl' vs' q.1 ill n'
  nb : Nbx sl' sl A E
  n0 : sl'.ownBlock = sl.ownBlock ∨ ∃ g, sl'.ownBlock = some g ∧ A ≤ g
  n1 : n ≤ n'
  n2 : n' ≤ n + 2 * (k + 1)
  wl : ill = 0 ∨ n' < ill
/-- An error came. -/
structure Bad7 (w W : World) (P : Nat) (sl : Value) (sh : List Pg) (ill A E : Nat) (a : Option Addr) (m c : Nat) (a' : Option Addr) (m' c' : Nat) (sl' : Value) (vs' : List V4) (t : List Pg) : Prop where
  r : Bd2 W E (.slice a m c) (.slice a' m' c')
  e : Bc W (E + 1) (.int .i64 4)
  sh : Shf W P sl' vs' (sh ++ t) ill ill
  nb : Nbx sl' sl A E
  n0 : sl'.ownBlock = sl.ownBlock ∨ ∃ g, sl'.ownBlock = some g ∧ A ≤ g
  iz : 0 < ill
structure ClI (w W : World) (P : Nat) (sl : Value) (sh : List Pg) (ill n A E sf : Nat) (stv : Value) (q : List Pg × Run) (k : Nat) : Prop where
  cb : Cb W A E P sf stv
  gw : Gw w W P sl.ownBlock
  sz : E + 3 ≤ W.heap.size
  st : (∃ kk ii sl' vs' n', Ok7 w W P sl ill n A E q k kk ii sl' vs' n') ∨ (∃ a m c a' m' c' sl' vs' t, Bad7 w W P sl sh ill A E a m c a' m' c' sl' vs' t)
/-- Left ahead of time. -/
structure ClX (w W : World) (P : Nat) (sl : Value) (sh : List Pg) (ill A E : Nat) (cd : Code) : Prop where
  cd : cd = Code.ret
  b8 : Bc W (A + 3) (.int .u64 0)
  b9 : Bc W (A + 4) (.int .i64 4)
  gw : Gw w W P sl.ownBlock
  st : ∃ sl' vs' t, Shf W P sl' vs' (sh ++ t) ill ill ∧ (sl'.ownBlock = sl.ownBlock ∨ ∃ g, sl'.ownBlock = some g ∧ A ≤ g) ∧ 0 < ill
  sz : A + 5 ≤ W.heap.size
theorem Shf.turn {W W' : World} {P : Nat} {row : Option Nat} {sl : Value} {vs : List V4} {sh : List Pg} {ill n : Nat} (h : Shf W P sl vs sh ill n) (g : W.grownBy W' row) (hr : ∀ r, row = some r → ∃ o : Obj, W.heap[r]? = some o ∧ o.isCells = false) : Shf W' P sl vs sh ill n := by
  cases row with
  | none => exact h.below ⟨g.os, g.tape, g.output, g.size, fun b hb => g.block b hb (by simp)⟩
  | some r =>
    obtain ⟨o, h1, h2⟩ := hr r rfl
    refine h.far g (nc_ne h1 h2 h.c1).symm (fun e => ?_) (nc_nt h1 h2)
    rcases h.own.2 with ⟨q, _⟩ | ⟨b, cap, cur, hv, _, hb, _⟩
    · rw [q] at e; cases e
    · rw [hv] at e
      have : b = r := by simpa [Value.ownBlock] using e
      rw [← this, hb] at h1
      cases h1
      cases h2
theorem RunV.turn {W W' : World} {row : Option Nat} {kk ii : Value} {q : Run} (h : RunV W kk ii q) (g : W.grownBy W' row) (hr : ∀ r, row = some r → ∃ o : Obj, W.heap[r]? = some o ∧ o.isCells = false) : RunV W' kk ii q := by
  cases row with
  | none => exact h.below ⟨g.os, g.tape, g.output, g.size, fun b hb => g.block b hb (by simp)⟩
  | some r =>
    obtain ⟨o, h1, h2⟩ := hr r rfl
    exact h.far g (nc_nt h1 h2) (fun kb x hx e => by rw [e, h1] at hx; cases hx; cases h2)
theorem Gw.turn {a b c : World} {P B : Nat} {o row : Option Nat} (h : Gw a b P o) (g : b.grownBy c row) (hr : ∀ r, row = some r → B ≤ r) (hB : a.heap.size ≤ B) : Gw a c P o := h.storeO g (fun A e => by have := hr A e; omega)
theorem ClI.own {w w5 : World} {P : Nat} {sl : Value} {sh : List Pg} {ill n A E sf len : Nat} {stv : Value} {Q : List (Ix len) → List Pg × Run} (hA : w.heap.size = A) (hAE : A + 5 ≤ E) (hE : E + 3 ≤ w5.heap.size) : OwnFrom w5.heap.size (fun (pre : List (Ix len)) W => ClI w W P sl sh ill n A E sf stv (Q pre) pre.length) := by
  intro pre W W' row h hg hr
  have kb : ∀ b, b < w5.heap.size → b < W.heap.size → W'.heap[b]? = W.heap[b]? := fun b hb hb2 => hg.block b hb2 (fun e => by have := (hr b e.symm).1; omega)
  have sz := h.sz
  refine ⟨h.cb.kept (fun b hb => kb b (by omega) (by omega)), h.gw.turn hg (fun r e => (hr r e).1) (by omega), Nat.le_trans h.sz hg.size, ?_⟩
  rcases h.st with ⟨kk, ii, sl', vs', n', o⟩ | ⟨a, m, c, a', m', c', sl', vs', t, o⟩
  · exact Or.inl ⟨kk, ii, sl', vs', n', ⟨o.r.kept (kb _ (by omega) (by omega)), o.e.kept (kb _ (by omega) (by omega)), o.rv.turn hg (fun r e => (hr r e).2), o.sh.turn hg (fun r e => (hr r e).2), o.nb, o.n0, o.n1, o.n2, o.wl⟩⟩
  · exact Or.inr ⟨a, m, c, a', m', c', sl', vs', t, ⟨o.r.kept (kb _ (by omega) (by omega)), o.e.kept (kb _ (by omega) (by omega)), o.sh.turn hg (fun r e => (hr r e).2), o.nb, o.n0, o.iz⟩⟩
theorem ClX.own {w w5 : World} {P : Nat} {sl : Value} {sh : List Pg} {ill A E len : Nat} {cd : Code} (hA : w.heap.size = A) (hAE : A + 5 ≤ w5.heap.size) : OwnFrom w5.heap.size (fun (pre : List (Ix len)) W => ClX w W P sl sh ill A E cd) := by
  intro pre W W' row h hg hr
  have kb : ∀ b, b < w5.heap.size → b < W.heap.size → W'.heap[b]? = W.heap[b]? := fun b hb hb2 => hg.block b hb2 (fun e => by have := (hr b e.symm).1; omega)
  have sz := h.sz
  obtain ⟨sl', vs', t, s1, s2, s3⟩ := h.st
  exact ⟨h.cd, h.b8.kept (kb _ (by omega) (by omega)), h.b9.kept (kb _ (by omega) (by omega)), h.gw.turn hg (fun r e => (hr r e).1) (by omega), ⟨sl', vs', t, s1.turn hg (fun r e => (hr r e).2), s2, s3⟩, Nat.le_trans h.sz hg.size⟩
/-- The steps behind the last k. -/
theorem upG_next (σ : List Pg → Pg → List Pg × Run) (l : List (Pg × Nat)) (q : List Pg × Run) (k : Nat) (hk : k < l.length) (st : Pg × Nat) (hs : l[l.length - 1 - k]? = some st) : upG σ (l.drop (l.length - (k + 1))) q = σ (upG σ (l.drop (l.length - k)) q).1 (withR st.1 st.2 (upG σ (l.drop (l.length - k)) q).2) := by
  have e : l.length - (k + 1) = l.length - 1 - k := by omega
  have hl := lt_of_some hs
  have e2 : l.drop (l.length - 1 - k) = st :: l.drop (l.length - k) := by
    rw [List.drop_eq_getElem_cons hl]
    rw [List.getElem?_eq_getElem hl] at hs
    rw [Option.some.inj hs, show l.length - 1 - k + 1 = l.length - k by omega]
  rw [e, e2]
  rfl
theorem Qf_backs (σ : List Pg → Pg → List Pg × Run) (l : List (Pg × Nat)) (d : Pg × Nat) (q : List Pg × Run) : ∀ k, k ≤ l.length → Qf σ (fun j => l.getD j d) q (backs l.length k) = upG σ (l.drop (l.length - k)) q
  | 0, _ => by rw [Nat.sub_zero, List.drop_length]; rfl
  | k + 1, hk => by
    have hl : l.length - 1 - k < l.length := by omega
    rw [backs_succ (by omega), Qf_snoc, Qf_backs σ l d q k (by omega), upG_next σ l q k (by omega) (l.getD (l.length - 1 - k) d) (by simp [List.getD, hl])]
/-- One box of five cells: a step. -/
structure B5 (W : World) (B : Nat) (x : V4 × Nat) : Prop where
  blk : W.heap[B]? = some (.cells #[.bool x.1.lf, .slice x.1.ka x.1.kn x.1.kc, .slice x.1.va x.1.vn x.1.vc, .slice x.1.ia x.1.im x.1.ic, .int .i64 (x.2 : Nat)] 119 (0, 0))
theorem B5.c0 {W : World} {B : Nat} {x : V4 × Nat} (h : B5 W B x) : W.cell? ⟨B, 0, none⟩ = some (.bool x.1.lf) := by rw [cell_of_row _ _ _ _ _ _ h.blk]; rfl
theorem B5.c1 {W : World} {B : Nat} {x : V4 × Nat} (h : B5 W B x) : W.cell? ⟨B, 1, none⟩ = some (.slice x.1.ka x.1.kn x.1.kc) := by rw [cell_of_row _ _ _ _ _ _ h.blk]; rfl
theorem B5.c2 {W : World} {B : Nat} {x : V4 × Nat} (h : B5 W B x) : W.cell? ⟨B, 2, none⟩ = some (.slice x.1.va x.1.vn x.1.vc) := by rw [cell_of_row _ _ _ _ _ _ h.blk]; rfl
theorem B5.c3 {W : World} {B : Nat} {x : V4 × Nat} (h : B5 W B x) : W.cell? ⟨B, 3, none⟩ = some (.slice x.1.ia x.1.im x.1.ic) := by rw [cell_of_row _ _ _ _ _ _ h.blk]; rfl
theorem B5.c4 {W : World} {B : Nat} {x : V4 × Nat} (h : B5 W B x) : W.cell? ⟨B, 4, none⟩ = some (.int .i64 (x.2 : Nat)) := by rw [cell_of_row _ _ _ _ _ _ h.blk]; rfl
theorem B5.kept {W W' : World} {B : Nat} {x : V4 × Nat} (h : B5 W B x) (k : W'.heap[B]? = W.heap[B]?) : B5 W' B x := ⟨k.trans h.blk⟩
theorem B5.lt {W : World} {B : Nat} {x : V4 × Nat} (h : B5 W B x) : B < W.heap.size := (Array.getElem?_eq_some_iff.1 h.blk).1
theorem B5.own {B0 : Nat} (B : Nat) (x : V4 × Nat) : OwnFrom B0 (fun (_ : Unit) W => B5 W B x) := fun _ W W' row h hg hr => h.kept (hg.block B h.lt (fun e => by
  obtain ⟨o, h1, h2⟩ := (hr B e.symm).2
  exact nc_ne h1 h2 h.c0 rfl))
/-- A step's box is no shelf's row. -/
theorem B5.apart {W : World} {B P : Nat} {x : V4 × Nat} {sl : Value} {vs : List V4} {sh : List Pg} {ill n : Nat} (h : B5 W B x) (s : Shf W P sl vs sh ill n) : some B ≠ sl.ownBlock := fun e => by
  rcases s.own.2 with ⟨q, _⟩ | ⟨g, cap, cur, hv, _, hg, _⟩
  · rw [q] at e; cases e
  · rw [hv] at e
    have : g = B := by simpa [Value.ownBlock] using e.symm
    rw [this, h.blk] at hg
    injection hg with hg
    injection hg with _ ht
    exact absurd ht (by decide)
theorem getD_some {α : Type} {l : List α} {i : Nat} {d : α} (h : i < l.length) : l[i]? = some (l.getD i d) := by simp [List.getD, h]
theorem chn_at {σ : List Pg → Pg → List Pg × Run} {A : Pg → Prop} : ∀ (l : List (Pg × Nat)) (q : List Pg × Run), Chn σ A l q → ∀ (j : Nat) (st : Pg × Nat), l[j]? = some st → goodB st.1 = true ∧ st.1.leaf = false ∧ 1 ≤ st.1.keys.length ∧ st.1.keys.length ≤ 127 ∧ st.2 < st.1.kids.length ∧ Ps st.1.kids ∧ A (withR st.1 st.2 (upG σ (l.drop (j + 1)) q).2) ∧ Ps (withR st.1 st.2 (upG σ (l.drop (j + 1)) q).2).kids ∧ (upG σ (l.drop (j + 1)) q).1.length ≤ 900000
  | [], _, _, j, st, h => by simp at h
  | x :: l, q, c, 0, st, h => by
    simp at h
    subst h
    exact c.2
  | x :: l, q, c, j + 1, st, h => chn_at l q c.1 j st (by simpa using h)
theorem Stp.lay {w : World} {base : Nat} {v : Value} {sts : List (V4 × Nat)} {pre : List (Pg × Nat)} (h : Stp w base v sts pre) : ∃ a c b, v = .slice a sts.length c ∧ (0 < sts.length → a = some ⟨b, 0, none⟩) ∧ (0 < sts.length → v.ownBlock = some b) ∧ (b < w.heap.size ∨ b = 0) ∧ Lay w b sts.length (fun j => sts.getD j (⟨false, none, 0, 0, none, 0, 0, none, 0, 0⟩, 0)) := by
  rcases h.own.2 with ⟨h0, h1⟩ | ⟨g, cap, cur, hv, hb, hg, hn, hm, hs, ht⟩
  · exact ⟨none, 0, 0, by rw [h0, h1], fun q => by omega, fun q => by omega, Or.inr rfl, ⟨fun j hj => by omega, fun j hj => by omega, fun j hj => by omega, fun j hj => by omega, fun j hj => by omega⟩⟩
  · have cell : ∀ (j t : Nat) (u : Value), j < sts.length → t < 5 → (s5 (sts.getD j (⟨false, none, 0, 0, none, 0, 0, none, 0, 0⟩, 0)))[t]? = some u → w.cell? ⟨g, j * 5 + t, none⟩ = some u := fun j t u hj ht5 hu => by
      have e0 : sts[j]? = some (sts.getD j (⟨false, none, 0, 0, none, 0, 0, none, 0, 0⟩, 0)) := by simp [List.getD, hj]
      have e := c5_at sts j t _ e0 ht5
      rw [hu] at e
      rw [← ht, List.getElem?_take_of_lt (by omega), Array.getElem?_toList] at e
      simp [World.cell?, hg, e]
    exact ⟨_, cap, g, hv, fun _ => rfl, fun _ => by rw [hv]; rfl, Or.inl (Array.getElem?_eq_some_iff.1 hg).1, ⟨fun j hj => cell j 0 _ hj (by decide) rfl, fun j hj => cell j 1 _ hj (by decide) rfl, fun j hj => cell j 2 _ hj (by decide) rfl, fun j hj => cell j 3 _ hj (by decide) rfl, fun j hj => cell j 4 _ hj (by decide) rfl⟩⟩
/-- One round more. -/
theorem ClI.step {w W V2 V3 : World} {P : Nat} {sl : Value} {sh : List Pg} {ill n A E sf : Nat} {stv : Value} {q s : List Pg × Run} {k : Nat} {kk ii sl' : Value} {vs' : List V4} {n' : Nat} {a : Option Addr} {m c : Nat} {a' : Option Addr} {m' c' : Nat} {er : Int} {B bs : Nat}
    (hA : w.heap.size = A) (hAE : A + 5 ≤ E) (hP : P < A) (CB : Cb W A E P sf stv) (GW : Gw w W P sl.ownBlock) (SZ : E + 3 ≤ W.heap.size) (o : Ok7 w W P sl ill n A E q k kk ii sl' vs' n') (bl : Below W.heap.size W V2)
    (A3 : (er = 0 ∧ ∃ n2, RunV V3 (.slice a m c) (.slice a' m' c') s.2 ∧ AddP V2 V3 P sl' s.1 ill n2 ∧ n' ≤ n2 ∧ n2 ≤ n' + 2 ∧ (ill = 0 ∨ n2 < ill)) ∨ (er = 4 ∧ ∃ t, AddP V2 V3 P sl' (q.1 ++ t) ill ill ∧ 0 < ill))
    (hq : ∃ t0, q.1 = sh ++ t0) (hsl : ∀ B', A ≤ B' → sl.ownBlock ≠ some B') (hB : E + 3 ≤ B) :
    ClI w (((V3.setCell ⟨E, 0, none⟩ (.slice a m c)).setCell ⟨E, 1, none⟩ (.slice a' m' c')).setCell ⟨E + 1, 0, none⟩ (.int .i64 er)) P sl sh ill n A E sf stv s (k + 1) ∧
    KeepsFrom B W (((V3.setCell ⟨E, 0, none⟩ (.slice a m c)).setCell ⟨E, 1, none⟩ (.slice a' m' c')).setCell ⟨E + 1, 0, none⟩ (.int .i64 er)) ∧
    ((bs < A ∧ bs ≠ P ∧ sl.ownBlock ≠ some bs) → Keep2 (E + 2) bs W (((V3.setCell ⟨E, 0, none⟩ (.slice a m c)).setCell ⟨E, 1, none⟩ (.slice a' m' c')).setCell ⟨E + 1, 0, none⟩ (.int .i64 er))) := by
  have g2 : Gw V2 V3 P sl'.ownBlock := by
    rcases A3 with ⟨_, _, _, ⟨_, _, _, q, _⟩, _⟩ | ⟨_, _, ⟨_, _, _, q, _⟩, _⟩
    · exact q
    · exact q
  have slB : ∀ B', A ≤ B' → (B' ≤ A + 4 ∨ (E ≤ B' ∧ B' ≤ E + 2)) → some B' ≠ sl'.ownBlock := fun B' h1 h2 e => o.nb B' h1 h2 e.symm
  -- blocks that are kept up to V3
  have kp : ∀ b, b < W.heap.size → b ≠ P → some b ≠ sl'.ownBlock → V3.heap[b]? = W.heap[b]? := fun b hb h1 h2 => (g2.block b (Nat.lt_of_lt_of_le hb bl.size) h1 h2).trans (bl.block b hb)
  have sz3 : W.heap.size ≤ V3.heap.size := Nat.le_trans bl.size g2.size
  have R3 : Bd2 V3 E kk ii := o.r.kept (kp E (by omega) (by omega) (slB E (by omega) (Or.inr ⟨Nat.le_refl _, by omega⟩)))
  have E3 : Bc V3 (E + 1) (.int .i64 0) := o.e.kept (kp (E + 1) (by omega) (by omega) (slB (E + 1) (by omega) (Or.inr ⟨by omega, by omega⟩)))
  obtain ⟨ri, rc, ei⟩ := o.rv.ni
  obtain ⟨rk, rkc, ek⟩ := o.rv.nk
  have nE : NT V3 E := R3.nt (by rw [ek]; exact nt_slice _ _ _) (by rw [ei]; exact nt_slice _ _ _)
  have X1 := R3.put (.slice a m c) (.slice a' m' c')
  generalize hY4 : (V3.setCell ⟨E, 0, none⟩ (.slice a m c)).setCell ⟨E, 1, none⟩ (.slice a' m' c') = Y4 at *
  have E4 : Bc Y4 (E + 1) (.int .i64 0) := E3.kept (X1.2.block (E + 1) E3.lt (fun e => by have := Option.some.inj e; omega))
  have nE1 : NT Y4 (E + 1) := E4.nt (nt_i64 _)
  have X2 := E4.put (.int .i64 er)
  generalize hY5 : Y4.setCell ⟨E + 1, 0, none⟩ (.int .i64 er) = Y5 at *
  have sz4 := X1.2.size
  have sz5 := X2.2.size
  have k5 : ∀ b, b < W.heap.size → b ≠ P → some b ≠ sl'.ownBlock → b ≠ E → b ≠ E + 1 → Y5.heap[b]? = W.heap[b]? := fun b hb h1 h2 h3 h4 =>
    (X2.2.block b (by omega) (fun e => h4 (Option.some.inj e))).trans ((X1.2.block b (by omega) (fun e => h3 (Option.some.inj e))).trans (kp b hb h1 h2))
  have R5 : Bd2 Y5 E (.slice a m c) (.slice a' m' c') := X1.1.kept (X2.2.block E X1.1.lt (fun e => by have := Option.some.inj e; omega))
  have CB5 : Cb Y5 A E P sf stv := CB.kept (fun b hb => k5 b (by omega) (by omega) (slB b (by omega) (by omega)) (by omega) (by omega))
  have GW3 : Gw w V3 P sl.ownBlock := (GW.next bl).trans g2 (o.n0.imp id (fun ⟨g, q1, hg⟩ => ⟨g, q1, by omega⟩))
  have GW5 : Gw w Y5 P sl.ownBlock := (GW3.store X1.2 (by omega)).store X2.2 (by omega)
  have far : ∀ (sl2 : Value) (vs2 : List V4) (sh2 : List Pg) (n2 : Nat), Shf V3 P sl2 vs2 sh2 ill n2 → (sl2.ownBlock = sl'.ownBlock ∨ ∃ g, sl2.ownBlock = some g ∧ V2.heap.size ≤ g) → Shf Y5 P sl2 vs2 sh2 ill n2 ∧ Nbx sl2 sl A E ∧ (sl2.ownBlock = sl.ownBlock ∨ ∃ g, sl2.ownBlock = some g ∧ A ≤ g) := fun sl2 vs2 sh2 n2 S N => by
    have nb2 : Nbx sl2 sl A E := fun B' h1 h2 e => by
      rcases N with q1 | ⟨g, q1, hg⟩
      · exact o.nb B' h1 h2 (q1.symm.trans e)
      · rw [q1] at e
        have := Option.some.inj e
        have := bl.size
        omega
    refine ⟨(S.far X1.2 (by omega) (nb2 E (by omega) (Or.inr ⟨Nat.le_refl _, by omega⟩)) nE).far X2.2 (by omega) (nb2 (E + 1) (by omega) (Or.inr ⟨by omega, by omega⟩)) nE1, nb2, ?_⟩
    rcases N with q1 | ⟨g, q1, hg⟩
    · rcases o.n0 with q2 | ⟨g, q2, hg⟩
      · exact Or.inl (q1.trans q2)
      · exact Or.inr ⟨g, q1.trans q2, hg⟩
    · have := bl.size
      exact Or.inr ⟨g, q1, by omega⟩
  refine ⟨⟨CB5, GW5, by omega, ?_⟩, ⟨by omega, fun b ob hb hob hc => ?_⟩, fun hbs => ⟨k5 (E + 2) (by omega) (by omega) (slB (E + 2) (by omega) (Or.inr ⟨by omega, by omega⟩)) (by omega) (by omega), k5 bs (by omega) hbs.2.1 (fun e => ?_) (by omega) (by omega)⟩⟩
  · rcases A3 with ⟨e0, n2, rv, ⟨sl2, vs2, S, G, N⟩, l1, l2, l3⟩ | ⟨e0, t, ⟨sl2, vs2, S, G, N⟩, iz⟩
    · obtain ⟨S5, N5, M5⟩ := far sl2 vs2 _ _ S N
      have rv5 : RunV Y5 (.slice a m c) (.slice a' m' c') s.2 := by
        have r4 := rv.far X1.2 nE (fun kb x hx e => by
          subst e
          have q1 := nE 0 (.string x) (by rw [cell_of_row _ _ _ _ _ _ hx]; rfl)
          exact q1.1 x rfl)
        exact r4.far X2.2 nE1 (fun kb x hx e => by
          subst e
          have q1 := nE1 0 (.string x) (by rw [cell_of_row _ _ _ _ _ _ hx]; rfl)
          exact q1.1 x rfl)
      have x2 := X2.1
      rw [e0] at x2
      have l4 := o.n1
      have l5 := o.n2
      exact Or.inl ⟨_, _, sl2, vs2, n2, ⟨R5, x2, rv5, S5, N5, M5, by omega, by omega, l3⟩⟩
    · obtain ⟨S5, N5, M5⟩ := far sl2 vs2 _ _ S N
      obtain ⟨t0, et⟩ := hq
      have x2 := X2.1
      rw [e0] at x2
      rw [et, List.append_assoc] at S5
      exact Or.inr ⟨_, _, _, _, _, _, sl2, vs2, _, ⟨R5, x2, S5, N5, M5, iz⟩⟩
  · have bl2 := (Array.getElem?_eq_some_iff.1 hob).1
    rw [k5 b bl2 (by omega) (fun e => ?_) (by omega) (by omega)]
    · exact hob
    · rcases o.sh.own.2 with ⟨q1, _⟩ | ⟨g, cap, cur, hv, _, hg, _⟩
      · rw [q1] at e; cases e
      · rw [hv] at e
        have : g = b := by simpa [Value.ownBlock] using e.symm
        rw [← this, hg] at hob
        cases hob
        cases hc
  · rcases o.n0 with q1 | ⟨g, q1, hg⟩
    · exact hbs.2.2 (by rw [← q1, ← e])
    · rw [q1] at e
      have := Option.some.inj e
      omega
/-- The round that answers an error. -/
theorem ClI.bad {w W V : World} {P : Nat} {sl : Value} {sh : List Pg} {ill A E sf : Nat} {stv : Value} {a : Option Addr} {m c : Nat} {a' : Option Addr} {m' c' : Nat} {sl' : Value} {vs' : List V4} {t : List Pg} {B : Nat}
    (hA : w.heap.size = A) (hAE : A + 5 ≤ E) (hP : P < A) (CB : Cb W A E P sf stv) (GW : Gw w W P sl.ownBlock) (SZ : E + 3 ≤ W.heap.size) (o : Bad7 w W P sl sh ill A E a m c a' m' c' sl' vs' t) (bl : Below W.heap.size W V) (hB : E + 3 ≤ B) :
    KeepsFrom B W ((V.setCell ⟨A + 3, 0, none⟩ (.int .u64 0)).setCell ⟨A + 4, 0, none⟩ (.int .i64 4)) ∧ ClX w ((V.setCell ⟨A + 3, 0, none⟩ (.int .u64 0)).setCell ⟨A + 4, 0, none⟩ (.int .i64 4)) P sl sh ill A E Code.ret := by
  have X1 := (CB.b8.below bl).put (.int .u64 0)
  have n8 := (CB.b8.below bl).nt nt_u64z
  generalize hY4 : V.setCell ⟨A + 3, 0, none⟩ (.int .u64 0) = Y4 at *
  have b94 := (CB.b9.below bl).kept (X1.2.block (A + 4) (CB.b9.below bl).lt (fun e => by have := Option.some.inj e; omega))
  have X2 := b94.put (.int .i64 4)
  have n9 := b94.nt (nt_i64 _)
  generalize hY5 : Y4.setCell ⟨A + 4, 0, none⟩ (.int .i64 4) = Y5 at *
  have s1 := bl.size
  have s2 := X1.2.size
  have s3 := X2.2.size
  refine ⟨⟨by omega, fun b ob hb hob hc => ?_⟩, ⟨rfl, X1.1.kept (X2.2.block (A + 3) X1.1.lt (fun e => by have := Option.some.inj e; omega)), X2.1, ((GW.next bl).store X1.2 (by omega)).store X2.2 (by omega), ⟨sl', vs', t, ((o.sh.below bl).far X1.2 (by omega) (o.nb _ (by omega) (Or.inl (by omega))) n8).far X2.2 (by omega) (o.nb _ (by omega) (Or.inl (by omega))) n9, o.n0, o.iz⟩, by omega⟩⟩
  have bl2 := (Array.getElem?_eq_some_iff.1 hob).1
  rw [X2.2.block b (by omega) (fun e => by have := Option.some.inj e; omega), X1.2.block b (by omega) (fun e => by have := Option.some.inj e; omega), bl.block b bl2]
  exact hob

end Go.Proofs.Ythdjghmipepppaa

namespace Go.Proofs.Ythdjghmipepppaa
open Go.RowKit Go.Shelf
set_option linter.unusedVariables false
set_option linter.unusedSimpArgs false
attribute [local go_sem] Oper.semAt_some

/-- What climbing answers. -/
def ClP (w w' : World) (P : Nat) (sl : Value) (sh : List Pg) (ill n : Nat) (R : List Pg × Nat) (e : Ending) : Prop :=
  (∃ n', e = .returned (.tuple #[.int .u64 (R.2 : Nat), .int .i64 0]) ∧ AddP w w' P sl R.1 ill n' ∧ n ≤ n' ∧ n' ≤ n + 60 ∧ (ill = 0 ∨ n' < ill)) ∨
  (∃ t, e = .returned (.tuple #[.int .u64 0, .int .i64 4]) ∧ AddP w w' P sl (sh ++ t) ill ill ∧ 0 < ill)
theorem AdP.form {w w' : World} {P : Nat} {sl : Value} {sh : List Pg} {ill n : Nat} {s : List Pg × Run} {e : Ending} (h : AdP w w' P sl sh ill n s e) : ∃ a m c a' m' c' er, e = .returned (.tuple #[.agg #[.slice a m c, .slice a' m' c'], .int .i64 er]) ∧
    ((er = 0 ∧ ∃ n', RunV w' (.slice a m c) (.slice a' m' c') s.2 ∧ AddP w w' P sl s.1 ill n' ∧ n ≤ n' ∧ n' ≤ n + 2 ∧ (ill = 0 ∨ n' < ill)) ∨ (er = 4 ∧ ∃ t, AddP w w' P sl (sh ++ t) ill ill ∧ 0 < ill)) := by
  rcases h with ⟨kk, ii, n', e, rv, h⟩ | ⟨a, m, c, a', m', c', t, e, h⟩
  · obtain ⟨ri, rc, ei⟩ := rv.ni
    obtain ⟨rk, rkc, ek⟩ := rv.nk
    subst ei ek
    exact ⟨_, _, _, _, _, _, 0, e, Or.inl ⟨rfl, n', rv, h⟩⟩
  · exact ⟨a, m, c, a', m', c', 4, e, Or.inr ⟨rfl, t, h⟩⟩
/-- The five boxes made first. -/
theorem five (w : World) (c0 c2 c3 c4 : Value) (p0 p1 p2 p3 : Value) (t0 t1 t2 t3 t4 : TypeId) :
    Bc (((((w.alloc (.cells #[c0] t0)).alloc (.cells #[p0, p1, p2, p3] t1)).alloc (.cells #[c2] t2)).alloc (.cells #[c3] t3)).alloc (.cells #[c4] t4)) w.heap.size c0 ∧
    Bq (((((w.alloc (.cells #[c0] t0)).alloc (.cells #[p0, p1, p2, p3] t1)).alloc (.cells #[c2] t2)).alloc (.cells #[c3] t3)).alloc (.cells #[c4] t4)) (w.heap.size + 1) p0 p1 p2 p3 ∧
    Bc (((((w.alloc (.cells #[c0] t0)).alloc (.cells #[p0, p1, p2, p3] t1)).alloc (.cells #[c2] t2)).alloc (.cells #[c3] t3)).alloc (.cells #[c4] t4)) (w.heap.size + 2) c2 ∧
    Bc (((((w.alloc (.cells #[c0] t0)).alloc (.cells #[p0, p1, p2, p3] t1)).alloc (.cells #[c2] t2)).alloc (.cells #[c3] t3)).alloc (.cells #[c4] t4)) (w.heap.size + 3) c3 ∧
    Bc (((((w.alloc (.cells #[c0] t0)).alloc (.cells #[p0, p1, p2, p3] t1)).alloc (.cells #[c2] t2)).alloc (.cells #[c3] t3)).alloc (.cells #[c4] t4)) (w.heap.size + 4) c4 ∧
    Below w.heap.size w (((((w.alloc (.cells #[c0] t0)).alloc (.cells #[p0, p1, p2, p3] t1)).alloc (.cells #[c2] t2)).alloc (.cells #[c3] t3)).alloc (.cells #[c4] t4)) ∧
    (((((w.alloc (.cells #[c0] t0)).alloc (.cells #[p0, p1, p2, p3] t1)).alloc (.cells #[c2] t2)).alloc (.cells #[c3] t3)).alloc (.cells #[c4] t4)).heap.size = w.heap.size + 5 := by
  obtain ⟨w1, h1⟩ : ∃ w1, w1 = w.alloc (.cells #[c0] t0) := ⟨_, rfl⟩
  obtain ⟨w2, h2⟩ : ∃ w2, w2 = w1.alloc (.cells #[p0, p1, p2, p3] t1) := ⟨_, rfl⟩
  obtain ⟨w3, h3⟩ : ∃ w3, w3 = w2.alloc (.cells #[c2] t2) := ⟨_, rfl⟩
  obtain ⟨w4, h4⟩ : ∃ w4, w4 = w3.alloc (.cells #[c3] t3) := ⟨_, rfl⟩
  have s1 : w1.heap.size = w.heap.size + 1 := by rw [h1]; simp
  have s2 : w2.heap.size = w.heap.size + 2 := by rw [h2]; simp [s1]
  have s3 : w3.heap.size = w.heap.size + 3 := by rw [h3]; simp [s2]
  have s4 : w4.heap.size = w.heap.size + 4 := by rw [h4]; simp [s3]
  have q0 := Bc.new w c0 t0
  have q1 := Bq.new w1 p0 p1 p2 p3 t1
  have q2 := Bc.new w2 c2 t2
  have q3 := Bc.new w3 c3 t3
  have q4 := Bc.new w4 c4 t4
  rw [← h1] at q0 ⊢
  rw [← h2] at q1 ⊢
  rw [← h3] at q2 ⊢
  rw [← h4] at q3 ⊢
  rw [s1] at q1
  rw [s2] at q2
  rw [s3] at q3
  rw [s4] at q4
  have b1 : Below w.heap.size w w1 := by rw [h1]; exact allocB _ _
  have b2 : Below w1.heap.size w1 w2 := by rw [h2]; exact allocB _ _
  have b3 : Below w2.heap.size w2 w3 := by rw [h3]; exact allocB _ _
  have b4 : Below w3.heap.size w3 w4 := by rw [h4]; exact allocB _ _
  have b5 := allocB w4 (.cells #[c4] t4)
  exact ⟨(((q0.below b2).below b3).below b4).below b5, ((q1.below b3).below b4).below b5, (q2.below b4).below b5, q3.below b5, q4, nextB b1 (nextB b2 (nextB b3 (nextB b4 b5))), by simp [s4]⟩

theorem ne_deferred {X : World} {b o D : Nat} {v : Value} {z : Option (List Deferred)} (hc : X.cell? ⟨b, o, none⟩ = some v) (hD : X.heap[D]? = some (.deferred z)) : b ≠ D := fun e => by
  subst e
  simp [World.cell?, hD] at hc
theorem cellPut {X : World} {b o D : Nat} {v : Value} {z : Option (List Deferred)} (hc : X.cell? ⟨b, o, none⟩ = some v) (hD : X.heap[D]? = some (.deferred z)) (ob : Obj) : (X.putObj D ob).cell? ⟨b, o, none⟩ = some v :=
  (World.cell?_of_block (w := X) (a := ⟨b, o, none⟩) (World.putObj_heap_other (ne_deferred hc hD))).trans hc
theorem backs_lenA' {m : Nat} : ∀ k, k ≤ m → (backs m k).length = k
  | 0, _ => rfl
  | k + 1, h => by rw [backs_succ (by omega), List.length_append, backs_lenA' k (by omega)]; rfl
theorem backs_lenA {m : Nat} : (backs m m).length = m := backs_lenA' m (Nat.le_refl _)
theorem sl_row {w : World} {b : Nat} {x : ByteArray} {t : TypeId} (h : w.heap[b]? = some (.cells #[.string x] t (0, 0))) : Sl w (some ⟨b, 0, none⟩) 1 1 (sv [x]) := by
  refine ⟨rfl, Nat.le_refl _, by unfold maxLen; omega, fun e => (by cases e), ⟨b, 0, fun _ => rfl, fun i u hi => ?_⟩, fun u hu => ?_⟩
  · have := lt_of_some hi
    obtain rfl : i = 0 := by simpa [sv] using this
    simp [sv] at hi
    subst hi
    rw [cell_of_row _ _ _ _ _ _ h]
    rfl
  · simp [sv] at hu
    subst hu
    rfl
theorem upG_grow {σ : List Pg → Pg → List Pg × Run} (hσ : Sg σ) : ∀ (l : List (Pg × Nat)) (q : List Pg × Run), ∃ t, (upG σ l q).1 = q.1 ++ t
  | [], q => ⟨[], by simp [upG]⟩
  | st :: l, q => by
    obtain ⟨t, e⟩ := upG_grow hσ l q
    obtain ⟨t2, e2⟩ := hσ.grow (upG σ l q).1 (withR st.1 st.2 (upG σ l q).2)
    exact ⟨t ++ t2, by show (σ _ _).1 = _; rw [e2, e, List.append_assoc]⟩
/-- The last two stores. -/
theorem fin2 {w V : World} {P A D n' ill : Nat} {sl sl' : Value} {vs' : List V4} {sh' : List Pg} {c3 c4 : Value} (u v : Value) (hA : w.heap.size = A) (hP : P < A) (b8 : Bc V (A + 3) c3) (b9 : Bc V (A + 4) c4) (n3 : nt c3) (n4 : nt c4) (s : Shf V P sl' vs' sh' ill n') (g : Gw w V P sl.ownBlock) (h3 : sl'.ownBlock ≠ some (A + 3)) (h4 : sl'.ownBlock ≠ some (A + 4)) (hD : V.heap[D]? = some (.deferred (some []))) :
    Shf ((V.setCell ⟨A + 3, 0, none⟩ u).setCell ⟨A + 4, 0, none⟩ v) P sl' vs' sh' ill n' ∧ Gw w ((V.setCell ⟨A + 3, 0, none⟩ u).setCell ⟨A + 4, 0, none⟩ v) P sl.ownBlock ∧ ((V.setCell ⟨A + 3, 0, none⟩ u).setCell ⟨A + 4, 0, none⟩ v).heap[D]? = some (.deferred (some [])) ∧ ((V.setCell ⟨A + 3, 0, none⟩ u).setCell ⟨A + 4, 0, none⟩ v).cell? ⟨A + 3, 0, none⟩ = some u ∧ ((V.setCell ⟨A + 3, 0, none⟩ u).setCell ⟨A + 4, 0, none⟩ v).cell? ⟨A + 4, 0, none⟩ = some v := by
  have e3 := ne_deferred b8.a0 hD
  have e4 := ne_deferred b9.a0 hD
  have X8 := b8.put u
  have b9' := b9.kept (X8.2.block _ b9.lt (fun e => by have := Option.some.inj e; omega))
  have X9 := b9'.put v
  have b8' := X8.1.kept (X9.2.block _ X8.1.lt (fun e => by have := Option.some.inj e; omega))
  refine ⟨(s.far X8.2 (by omega) h3 (b8.nt n3)).far X9.2 (by omega) h4 (b9'.nt n4), (g.store X8.2 (by omega)).store X9.2 (by omega), ?_, b8'.a0, X9.1.a0⟩
  rw [Below.heap_setCell _ ⟨A + 4, 0, none⟩ _ _ (fun e => e4 e.symm), Below.heap_setCell _ ⟨A + 3, 0, none⟩ _ _ (fun e => e3 e.symm)]
  exact hD
theorem ClP.ok {w X : World} {P D n' ill n : Nat} {sl sl' : Value} {vs' : List V4} {sh : List Pg} {R : List Pg × Nat} (s : Shf X P sl' vs' R.1 ill n') (g : Gw w X P sl.ownBlock) (n0 : sl'.ownBlock = sl.ownBlock ∨ ∃ g, sl'.ownBlock = some g ∧ w.heap.size ≤ g) (hD : X.heap[D]? = some (.deferred (some []))) (hw : w.heap.size ≤ D) (n1 : n ≤ n') (n2 : n' ≤ n + 60) (wl : ill = 0 ∨ n' < ill) :
    ClP w (X.putObj D (.deferred none)) P sl sh ill n R (.returned (.tuple #[.int .u64 (R.2 : Nat), .int .i64 0])) :=
  Or.inl ⟨n', rfl, ⟨sl', vs', s.turn (grownBy_putObj' X D _) (fun r e => by cases e; exact ⟨_, hD, rfl⟩), g.turn (grownBy_putObj' X D _) (fun r e => by cases e; exact hw) (Nat.le_refl _), n0⟩, n1, n2, wl⟩
theorem ClP.bad {w X : World} {P D ill n : Nat} {sl sl' : Value} {vs' : List V4} {sh t : List Pg} {R : List Pg × Nat} (s : Shf X P sl' vs' (sh ++ t) ill ill) (g : Gw w X P sl.ownBlock) (n0 : sl'.ownBlock = sl.ownBlock ∨ ∃ g, sl'.ownBlock = some g ∧ w.heap.size ≤ g) (hD : X.heap[D]? = some (.deferred (some []))) (hw : w.heap.size ≤ D) (iz : 0 < ill) :
    ClP w (X.putObj D (.deferred none)) P sl sh ill n R (.returned (.tuple #[.int .u64 0, .int .i64 4])) :=
  Or.inr ⟨t, rfl, ⟨sl', vs', s.turn (grownBy_putObj' X D _) (fun r e => by cases e; exact ⟨_, hD, rfl⟩), g.turn (grownBy_putObj' X D _) (fun r e => by cases e; exact hw) (Nat.le_refl _), n0⟩, iz⟩
theorem ne_deferred' : True := trivial
theorem Qf_all (σ : List Pg → Pg → List Pg × Run) (l : List (Pg × Nat)) (d : Pg × Nat) (q : List Pg × Run) {m : Nat} (hm : m = l.length) : Qf σ (fun j => l.getD j d) q (backs m m) = upG σ l q := by
  subst hm
  rw [Qf_backs σ l d q _ (Nat.le_refl _), Nat.sub_self, List.drop_zero]
theorem RunV.pv {w : World} {kk ii : Value} {q : Run} (h : RunV w kk ii q) : Pv w (.agg #[.bool false, kk, .slice none 0 0, ii]) ⟨false, q.keys, [], q.kids⟩ := by
  obtain ⟨ka, kc, ek⟩ := h.nk
  obtain ⟨ia, ic, ei⟩ := h.ni
  have sk : Sl w ka q.keys.length kc (sv q.keys) := by
    rcases h.ky with ⟨e1, e2⟩ | ⟨x, kb, e1, e2, e3⟩
    · rw [ek] at e2
      injection e2 with e2 e4 e5
      rw [e1, e2, e5]
      exact Sl.empty _
    · rw [ek] at e2
      injection e2 with e2 e4 e5
      rw [e1, e2, e5]
      exact sl_row e3
  have si : Sl w ia q.kids.length ic (kv q.kids) := by
    rcases h.kd with ⟨e1, e2⟩ | ⟨b, o, m, c, e1, _, e2, e3⟩
    · rw [ei] at e2
      injection e2 with e2 e4 e5
      rw [e1, e2, e5]
      exact Sl.empty _
    · rw [ei] at e1
      injection e1 with q1 q2 q3
      rw [q1, q3, e2]
      exact e3
  rw [ek, ei]
  exact Pv.mk' sk (Sl.empty _) si h.mx
theorem halv_kid (sh : List Pg) (p : Pg) : 1 ≤ (halvR sh p).2.kids.length := by
  unfold halvR
  split <;> simp

end Go.Proofs.Ythdjghmipepppaa

namespace Go.Proofs.Ythdjghmipepppaa
open Go.RowKit Go.Shelf
set_option linter.unusedVariables false
set_option linter.unusedSimpArgs false

theorem way_find (k : ByteArray) : ∀ (r : Nat) (sh : List Pg) (n : Nat) (L : List It) (f : Nat), Tr sh r n L f → findF r sh n k = if fnd (wayF r sh n k).2.keys k then some (kAt (wayF r sh n k).2.vals (posS (wayF r sh n k).2.keys k)) else none
  | 0, _, _, _, _, h => False.elim h
  | r + 1, sh, n, L, f, h => by
    obtain ⟨p, h1, hp, h3⟩ := h
    obtain ⟨g, ne, ⟨l, rfl, rfl⟩ | ⟨l, S, e1, rfl, rfl, bt⟩⟩ := hp
    · rw [wayF_leaf h1 l]
      simp only [findF, h1, l, if_true]
    · have hl := bt.len
      have pl := plS_le p.keys k
      obtain ⟨s, hsi⟩ : ∃ s, S[plS p.keys k]? = some s := ⟨_, List.getElem?_eq_getElem (by omega)⟩
      have gd : p.kids.getD (plS p.keys k) 0 = s.n := by rw [e1]; exact getD_map hsi
      rw [wayF_branch h1 l]
      simp only [findF, h1, l, gd]
      rw [if_neg (by simp), way_find k r sh s.n s.L s.f (bt.ok _ s hsi).1]
theorem way_get (k : ByteArray) {r : Nat} {sh : List Pg} {n : Nat} {L : List It} {f : Nat} (h : Tr sh r n L f) : getL L k = if fnd (wayF r sh n k).2.keys k then some (kAt (wayF r sh n k).2.vals (posS (wayF r sh n k).2.keys k)) else none := by
  rw [← find_ok k r sh n L f h, way_find k r sh n L f h]
theorem getL_in {L : List It} {k : ByteArray} (h : ∃ x ∈ L, x.1 = k) : getL L k ≠ none := by
  obtain ⟨x, hx, e⟩ := h
  unfold getL
  intro q
  rw [Option.map_eq_none_iff, List.find?_eq_none] at q
  exact q x hx (by simp [e])
theorem way_in {k : ByteArray} {r : Nat} {sh : List Pg} {n : Nat} {L : List It} {f : Nat} (h : Tr sh r n L f) : fnd (wayF r sh n k).2.keys k = true ↔ ∃ x ∈ L, x.1 = k := by
  have g := way_get k h
  constructor
  · intro q
    rw [if_pos q] at g
    rcases Classical.em (∃ x ∈ L, x.1 = k) with c | c
    · exact c
    · rw [getL_none (fun x hx e => c ⟨x, hx, e⟩)] at g
      cases g
  · intro q
    cases c : fnd (wayF r sh n k).2.keys k with
    | true => rfl
    | false =>
      rw [if_neg (by rw [c]; simp)] at g
      exact absurd g (getL_in q)
theorem good_mem {p : Pg} (g : goodB p = true) : ∀ s ∈ p.keys, s.size ≤ 40 := kz_mem (leaf_keys g).2
theorem good_none : goodB ⟨true, [], [], []⟩ = true := rfl
/-- What climbing asks behind a Put. -/
theorem put_pre {sh : List Pg} {r root : Nat} {L : List It} {f : Nat} {k v : ByteArray} (h : Tr sh r root L f) (hk : 1 ≤ k.size ∧ k.size ≤ 40) (hv : v.size ≤ 400) (hL : L.length ≤ 125) (hs : sh.length ≤ 700000) (hr : r ≤ 20) :
    (wayF r sh root k).2.leaf = true ∧ goodB (wayF r sh root k).2 = true ∧ Fit (wayF r sh root k).2 ∧ Adm (putP (wayF r sh root k).2 k v) ∧ Ps (putP (wayF r sh root k).2 k v).kids ∧
    (∀ st ∈ (wayF r sh root k).1, goodB st.1 = true ∧ st.1.leaf = false ∧ 1 ≤ st.1.keys.length ∧ st.1.keys.length ≤ 127 ∧ st.2 < st.1.kids.length) ∧
    (Rn (halvR sh (putP (wayF r sh root k).2 k v)).2 ∧ (halvR sh (putP (wayF r sh root k).2 k v)).1.length ≤ sh.length + 2) ∧ (wayF r sh root k).1.length + 1 ≤ r ∧
    ((putQ r sh root k v).2.kids.length ≤ 2 ∧ (putQ r sh root k v).1.length ≤ 900000 ∧ (1 < (putQ r sh root k v).2.kids.length → Adm ⟨false, (putQ r sh root k v).2.keys, [], (putQ r sh root k v).2.kids⟩ ∧ Ps (putQ r sh root k v).2.kids)) := by
  obtain ⟨_, a1, a2, a3, a4, a5, a6⟩ := chn_put k v hk hv r sh root L f h hL (by omega)
  obtain ⟨b1, b2⟩ := way_good k r sh root L f h (by omega) (by omega)
  obtain ⟨g1, g2, _⟩ := good_put (k := k) (v := v) a2 a1 hk hv
  exact ⟨a1, a2, a3, a4, a5, fun st hst => ⟨(b2 st hst).1, (b2 st hst).2.1, (b2 st hst).2.2.1, (b2 st hst).2.2.2.1, (b2 st hst).2.2.2.2.1⟩, halv_rn (good_mem g1) (by omega), b1, root_adm (put_qr h hk hv (by omega) (by omega)) (by omega)⟩
theorem drop_pre {sh : List Pg} {r root : Nat} {L : List It} {f : Nat} {k : ByteArray} (h : Tr sh r root L f) (hx : ∃ x ∈ L, x.1 = k) (hL : L.length ≤ 125) (hs : sh.length ≤ 700000) (hr : r ≤ 20) :
    Stl (dropP (wayF r sh root k).2 k) ∧ Ps (dropP (wayF r sh root k).2 k).kids ∧
    (∀ st ∈ (wayF r sh root k).1, goodB st.1 = true ∧ st.1.leaf = false ∧ 1 ≤ st.1.keys.length ∧ st.1.keys.length ≤ 127 ∧ st.2 < st.1.kids.length) ∧
    (Rn (leftR sh (dropP (wayF r sh root k).2 k)).2 ∧ (leftR sh (dropP (wayF r sh root k).2 k)).1.length ≤ sh.length + 2) ∧ (wayF r sh root k).1.length + 1 ≤ r ∧
    ((dropQ r sh root k).2.kids.length ≤ 2 ∧ (dropQ r sh root k).1.length ≤ 900000 ∧ (1 < (dropQ r sh root k).2.kids.length → Adm ⟨false, (dropQ r sh root k).2.keys, [], (dropQ r sh root k).2.kids⟩ ∧ Ps (dropQ r sh root k).2.kids)) := by
  obtain ⟨_, a1, a2, a3, a4, a5, a6, a7⟩ := chn_drop k r sh root L f h hx (by omega) (by omega)
  obtain ⟨b1, b2⟩ := way_good k r sh root L f h (by omega) (by omega)
  obtain ⟨g1, g2⟩ := good_drop a2 a1 a4
  exact ⟨a5, a6, fun st hst => ⟨(b2 st hst).1, (b2 st hst).2.1, (b2 st hst).2.2.1, (b2 st hst).2.2.2.1, (b2 st hst).2.2.2.2.1⟩, left_rn (good_mem g1) (fun x hx => by rw [(goodB_leaf g1 g2).2] at hx; cases hx) (fun q => by rw [g2] at q; cases q) (by omega), b1, root_adm (drop_ok k r sh root L f h hx (by omega) (by omega)) (by omega)⟩
theorem new_pre {k v : ByteArray} (hk : 1 ≤ k.size ∧ k.size ≤ 40) (hv : v.size ≤ 400) (sh : List Pg) (hs : sh.length ≤ 700000) :
    Adm (putP ⟨true, [], [], []⟩ k v) ∧ Ps (putP ⟨true, [], [], []⟩ k v).kids ∧ (Rn (halvR sh (putP ⟨true, [], [], []⟩ k v)).2 ∧ (halvR sh (putP ⟨true, [], [], []⟩ k v)).1.length ≤ sh.length + 2) ∧
    ((halvR sh (putP ⟨true, [], [], []⟩ k v)).2.kids.length ≤ 2 ∧ (halvR sh (putP ⟨true, [], [], []⟩ k v)).1.length ≤ 900000 ∧ (1 < (halvR sh (putP ⟨true, [], [], []⟩ k v)).2.kids.length → Adm ⟨false, (halvR sh (putP ⟨true, [], [], []⟩ k v)).2.keys, [], (halvR sh (putP ⟨true, [], [], []⟩ k v)).2.kids⟩ ∧ Ps (halvR sh (putP ⟨true, [], [], []⟩ k v)).2.kids)) := by
  obtain ⟨g1, g2, _⟩ := good_put (k := k) (v := v) good_none rfl hk hv
  have e : putP ⟨true, [], [], []⟩ k v = ⟨true, [k], [v], []⟩ := rfl
  have q : (encP ⟨true, [k], [v], []⟩).length ≤ 900 := by
    rw [encP_leaf_len, hd2 (by simp)]
    have := item_443 hk.2 hv
    simp only [szs, sumL]
    omega
  have rn := halv_rn (sh := sh) (good_mem g1) (by omega)
  have ft : Fit (putP ⟨true, [], [], []⟩ k v) := fit_of g1 (by rw [e]; simp) (fun _ => by rw [e]; omega) (fun x hx => by rw [e] at hx; cases hx)
  have hq : halvR sh (putP ⟨true, [], [], []⟩ k v) = (sh ++ [⟨true, [k], [v], []⟩], ⟨[], [sh.length + 1]⟩) := by
    rw [e]; unfold halvR; rw [if_pos q]
  refine ⟨⟨Or.inl g1, ft⟩, fun x hx => (by rw [e] at hx; cases hx), rn, ?_⟩
  rw [hq]
  exact ⟨by simp, by simp; omega, fun c => by simp at c⟩
/-- What a change answers. -/
def ChP (w w' : World) (P : Nat) (sl : Value) (sh : List Pg) (ill n : Nat) (R : List Pg × Nat) (er : Int) (e : Ending) : Prop :=
  (∃ n', e = .returned (.tuple #[.int .u64 (R.2 : Nat), .int .i64 er]) ∧ AddP w w' P sl R.1 ill n' ∧ n ≤ n' ∧ n' ≤ n + 100 ∧ (ill = 0 ∨ n' < ill)) ∨
  (∃ t, e = .returned (.tuple #[.int .u64 0, .int .i64 4]) ∧ AddP w w' P sl (sh ++ t) ill ill ∧ 0 < ill)
theorem ClP.ch {w w1 w' : World} {P : Nat} {sl : Value} {sh : List Pg} {ill n n1 : Nat} {R : List Pg × Nat} {e : Ending} (h : ClP w1 w' P sl sh ill n1 R e) (g : Gw w w1 P none) (h1 : n ≤ n1) (h2 : n1 ≤ n + 30) : ChP w w' P sl sh ill n R 0 e := by
  have g' : Gw w w1 P sl.ownBlock := g.any _
  rcases h with ⟨n', e, a, l1, l2, l3⟩ | ⟨t, e, a, iz⟩
  · exact Or.inl ⟨n', e, AddP.trans g' (Or.inl rfl) a, by omega, by omega, l3⟩
  · exact Or.inr ⟨t, e, AddP.trans g' (Or.inl rfl) a, iz⟩
theorem Stp.off {w w0 : World} {P : Nat} {sl : Value} {vs : List V4} {sh : List Pg} {ill n : Nat} {v : Value} {sts : List (V4 × Nat)} {pre : List (Pg × Nat)} (h : Stp w w0.heap.size v sts pre) (s : Shf w0 P sl vs sh ill n) : ∀ b, v.ownBlock = some b → b ≠ P ∧ sl.ownBlock ≠ some b := fun b hb => by
  have l1 := (h.own.lt b hb).1
  have l2 := s.lt
  exact ⟨by omega, s.newer b l1⟩

end Go.Proofs.Ythdjghmipepppaa

namespace Go.Proofs.Ythdjghmipepppaa
open Go.RowKit Go.Shelf
set_option linter.unusedVariables false
set_option linter.unusedSimpArgs false

def cutL (a b : ByteArray) (m : Int) (acc L : List It) : List It := acc ++ (rng L a b).take (m.toNat - acc.length)
theorem cutL_nil (a b : ByteArray) (m : Int) (acc : List It) : cutL a b m acc [] = acc := by simp [cutL, rng]
theorem cutL_app (a b : ByteArray) (m : Int) (acc A B : List It) : cutL a b m (cutL a b m acc A) B = cutL a b m acc (A ++ B) := by
  unfold cutL rng
  rw [List.filter_append, List.take_append, List.append_assoc]
  congr 2
  simp only [List.length_append, List.length_take]
  congr 1
  omega
theorem cutL_none {a b : ByteArray} {m : Int} {acc L : List It} (h : ∀ x ∈ L, inR a b x = false) : cutL a b m acc L = acc := by
  unfold cutL rng
  rw [filt_none h]
  simp
theorem cutL_full {a b : ByteArray} {m : Int} {acc L : List It} (h : m ≤ (acc.length : Nat)) : cutL a b m acc L = acc := by
  unfold cutL
  have e : m.toNat - acc.length = 0 := by omega
  rw [e]
  simp
theorem cutL_one {a b : ByteArray} {m : Int} {acc : List It} {x : It} (h : inR a b x = true) (l : ((acc.length : Nat) : Int) < m) : cutL a b m acc [x] = acc ++ [x] := by
  unfold cutL rng
  rw [List.filter_cons_of_pos h, List.filter_nil, List.take_of_length_le (by simp; omega)]
def endsB (b key : ByteArray) : Bool := !decide (b = ByteArray.empty) && leS b key
theorem endsB_out {a b key : ByteArray} {x : It} (h : endsB b key = true) (hx : leS key x.1 = true) : inR a b x = false := by
  unfold endsB at h
  rw [Bool.and_eq_true] at h
  have h1 : decide (b = ByteArray.empty) = false := by simpa using h.1
  unfold inR
  rw [h1, leS_not (leS_trans h.2 hx)]
  simp
theorem endsB_in {a b key : ByteArray} (v : ByteArray) (h : endsB b key = false) (ha : leS a key = true) : inR a b (key, v) = true := by
  unfold inR
  unfold endsB at h
  rw [ha]
  cases c : decide (b = ByteArray.empty) with
  | true => rfl
  | false =>
    rw [c] at h
    have h2 : leS b key = false := by simpa using h
    have : ltS key b = true := by rw [ltS_leS] at h2; simpa using h2
    rw [this]; rfl
/-- A leaf's. -/
theorem leaf_cut0 {ks vs : List ByteArray} (e : vs.length = ks.length) (a b : ByteArray) (m : Int) (acc : List It) : cutL a b m acc ((zipK ks vs).take (posS ks a)) = acc := by
  refine cutL_none (fun x hx => ?_)
  rw [← zipK_take] at hx
  obtain ⟨i, hi, rfl⟩ := zipK_mem (by simp [e]) hx
  simp only [List.length_take] at hi
  rw [kAt_take (by omega)]
  unfold inR
  have q := pos_lt (ks := ks) (x := a) (t := i) (by omega)
  have : leS a (kAt ks i) = false := by rw [ltS_leS, q]; rfl
  simp only [this, Bool.false_and]
theorem leaf_more {ks vs : List ByteArray} (e : vs.length = ks.length) (r : Rise ks) {a b : ByteArray} {m : Int} {acc : List It} {j : Nat} (h1 : posS ks a ≤ j) (h2 : j < ks.length) (h3 : (((cutL a b m acc ((zipK ks vs).take j)).length : Nat) : Int) < m) (h4 : endsB b (kAt ks j) = false) : cutL a b m acc ((zipK ks vs).take (j + 1)) = cutL a b m acc ((zipK ks vs).take j) ++ [(kAt ks j, kAt vs j)] := by
  rw [List.take_add_one, zipK_at e h2, Option.toList_some, ← cutL_app]
  exact cutL_one (endsB_in _ h4 (not_leS (pos_gt r h1 h2))) h3
theorem leaf_end {ks vs : List ByteArray} (e : vs.length = ks.length) (r : Rise ks) {a b : ByteArray} {m : Int} {acc : List It} {j : Nat} (h2 : j < ks.length) (h3 : m ≤ ((cutL a b m acc ((zipK ks vs).take j)).length : Nat) ∨ endsB b (kAt ks j) = true) : cutL a b m acc (zipK ks vs) = cutL a b m acc ((zipK ks vs).take j) := by
  conv => lhs; rw [← List.take_append_drop j (zipK ks vs), ← cutL_app]
  rcases h3 with h3 | h3
  · exact cutL_full h3
  · refine cutL_none (fun x hx => endsB_out h3 ?_)
    rw [← zipK_drop] at hx
    obtain ⟨i, hi, rfl⟩ := zipK_mem (by simp [e]) hx
    simp only [List.length_drop] at hi
    rw [kAt_drop]
    rcases Nat.eq_zero_or_pos i with q | q
    · subst q; exact leS_refl _
    · exact lt_le (r _ _ (by omega) (by omega))
/-- A branch's. -/
theorem br_cut0 {P : Nat → List It → Nat → Prop} {ks : List ByteArray} {S : List Seg} (h : Bt P ks S) (a b : ByteArray) (m : Int) (acc : List It) : cutL a b m acc (lall (S.take (plS ks a))) = acc := by
  refine cutL_none (fun x hx => ?_)
  have q := h.ahead (k := a) x hx
  unfold inR
  have : leS a x.1 = false := by rw [ltS_leS, q]; rfl
  simp only [this, Bool.false_and]
theorem lall_next {S : List Seg} {j : Nat} {s : Seg} (h : S[j]? = some s) : lall (S.take (j + 1)) = lall (S.take j) ++ s.L := by
  rw [List.take_add_one, h, Option.toList_some, lall_app, lall_cons]
  simp [lall]
theorem br_more {S : List Seg} {a b : ByteArray} {m : Int} {acc : List It} {j : Nat} {s : Seg} (h : S[j]? = some s) : cutL a b m (cutL a b m acc (lall (S.take j))) s.L = cutL a b m acc (lall (S.take (j + 1))) := by
  rw [lall_next h, cutL_app]
theorem br_end {P : Nat → List It → Nat → Prop} {ks : List ByteArray} {S : List Seg} (h : Bt P ks S) (r : Rise ks) {a b : ByteArray} {m : Int} {acc : List It} {j : Nat} (h2 : j ≤ ks.length) (h3 : m ≤ ((cutL a b m acc (lall (S.take j))).length : Nat) ∨ (0 < j ∧ endsB b (kAt ks (j - 1)) = true)) : cutL a b m acc (lall S) = cutL a b m acc (lall (S.take j)) := by
  conv => lhs; rw [← List.take_append_drop j S, lall_app, ← cutL_app]
  rcases h3 with h3 | ⟨h0, h3⟩
  · exact cutL_full h3
  · refine cutL_none (fun x hx => endsB_out h3 ?_)
    obtain ⟨i, s, hs, hx⟩ := lall_mem hx
    rw [List.getElem?_drop] at hs
    have q := h.lo (j + i) s hs (by omega) x hx
    refine leS_trans ?_ q
    have hl := h.len
    have := lt_of_some hs
    rcases Nat.eq_zero_or_pos i with c | c
    · subst c; exact leS_refl _
    · exact lt_le (r _ _ (by omega) (by omega))
theorem cutL_len {a b : ByteArray} {m : Int} {acc L : List It} : (cutL a b m acc L).length ≤ acc.length + L.length := by
  unfold cutL rng
  rw [List.length_append, List.length_take]
  have := List.length_filter_le (inR a b) L
  omega
/-- All of a range. -/
theorem cutL_all {a b : ByteArray} {m : Int} {L : List It} : cutL a b m [] L = (rng L a b).take m.toNat := by simp [cutL]

end Go.Proofs.Ythdjghmipepppaa

