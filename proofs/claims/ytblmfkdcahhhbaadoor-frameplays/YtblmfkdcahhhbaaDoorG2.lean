/- slices.Backward over bytes: the iterator's contract; the walk over package frame's low. -/
import Derived.Test.YtblmfkdcahhhbaaDoorG1
import Derived.Laws.BitsAllLaws
import Derived.RangeFuncNested
import Derived.RangeFuncBound
import Derived.RangeFuncCalls
import Derived.RangeFuncLeaves
import Derived.Shelf.Abstract
import Derived.Shelf.RegionOpen
import Derived.OwnWalkIn
import Derived.TacticsInMore
import Derived.LoopNIn
import Derived.LoopIn
namespace Go.Proofs.YtblmfkdcahhhbaaDoor
open Go.RowKit Go.Shelf
set_option linter.unusedVariables false
set_option linter.unusedSimpArgs false
attribute [local go_sem] Oper.semAt_some

abbrev B8 := { x : Int // 0 ≤ x ∧ x < 256 }
/-- What has come when k rounds are over. -/
def upto {α : Type} (f : Nat → α) (k : Nat) : List α := (List.range k).map f
theorem upto_succ {α : Type} (f : Nat → α) (k : Nat) : upto f (k + 1) = upto f k ++ [f k] := by simp [upto, List.range_succ]
theorem upto_length {α : Type} (f : Nat → α) (k : Nat) : (upto f k).length = k := by simp [upto]

def byteAt (bs : List Int) (h : Bys bs) (i : Nat) : B8 := ⟨bs.getD i 0, h.getD i⟩
def encB (x : Nat × B8) : Array Value := #[.int .i64 (x.1 : Nat), .int .u8 x.2.1]

/-- Two blocks are as they were. -/
def Keep2 (x y : Nat) (A B : World) : Prop := B.heap[x]? = A.heap[x]? ∧ B.heap[y]? = A.heap[y]?
theorem Keep2.refl (x y : Nat) (A : World) : Keep2 x y A A := ⟨rfl, rfl⟩
theorem Keep2.trans {x y : Nat} {A B C : World} (h : Keep2 x y A B) (k : Keep2 x y B C) : Keep2 x y A C := ⟨k.1.trans h.1, k.2.trans h.2⟩
theorem Keep2.put {x y : Nat} {w : World} (hx : x < w.heap.size) (hy : y < w.heap.size) (W : World) (l : Nat) (o o' : Obj) (hl : w.heap.size ≤ l) (h : W.heap[l]? = some o) (_ : o.isCells = false) (_ : o.isWalk = false) : Keep2 x y W (W.putObj l o') :=
  ⟨World.putObj_heap_other (by omega), World.putObj_heap_other (by omega)⟩
theorem Keep2.cx {x y : Nat} {A B : World} (h : Keep2 x y A B) (o : Nat) : B.cell? ⟨x, o, none⟩ = A.cell? ⟨x, o, none⟩ := World.cell?_of_block (w := A) (a := ⟨x, o, none⟩) h.1
theorem Keep2.cy {x y : Nat} {A B : World} (h : Keep2 x y A B) (o : Nat) : B.cell? ⟨y, o, none⟩ = A.cell? ⟨y, o, none⟩ := World.cell?_of_block (w := A) (a := ⟨y, o, none⟩) h.2
theorem Keep2.set {x y g o : Nat} (W : World) (v : Value) (hx : x ≠ g) (hy : y ≠ g) : Keep2 x y W (W.setCell ⟨g, o, none⟩ v) := ⟨Below.heap_setCell _ _ _ _ hx, Below.heap_setCell _ _ _ _ hy⟩

set_option maxRecDepth 100000 in
set_option maxHeartbeats 2000000 in
theorem backB1_in (F : Fence) (n : Nat) (hF : F.fn 69) (hro : F.round = none) (hn : 1 ≤ n) (l Bs b off len cap : Nat) (bs : List Int) (hbs : Bys bs) (hreach : len ≤ 100000) (J Jx : List (Nat × B8) → World → Prop)
    (hY : ∀ pre x W, J pre W → pre.length < len → YieldAt F (n - 1) Tryd.prog l (encB x) W fun e W' =>
      (e = .returned (.bool true) ∧ J (pre ++ [x]) W' ∧ Keep2 Bs b W W') ∨ (e = .returned (.bool false) ∧ Jx (pre ++ [x]) W'))
    (W : World) (hBs : W.cell? ⟨Bs, 0, none⟩ = some (.slice (some ⟨b, off, none⟩) len cap)) (hc : ∀ j, j < len → W.cell? ⟨b, off + j, none⟩ = some (.int .u8 (bs.getD j 0))) (h0 : J [] W) :
    CallsIn F n Tryd.prog 69 #[.func (.yield l) #[] #[], .pointer (some ⟨Bs, 0, none⟩)] W fun e W' => (∃ v, e = .returned v) ∧
      ((∃ ys, ys = upto (fun j => (len - 1 - j, byteAt bs hbs (len - 1 - j))) len ∧ J ys W') ∨ (∃ pre, (∃ k, k ≤ len ∧ pre = upto (fun j => (len - 1 - j, byteAt bs hbs (len - 1 - j))) k) ∧ Jx pre W')) := by
  have hl' : (len : Int) ≤ 100000 := by omega
  have HC : Hid _ := hc
  clear hc
  refine callsIn_of_wp Tryd.func69 rfl hF ?_ hro
  simp only [Tryd.ntmps69, List.size_toArray, List.length_cons, List.length_nil, Nat.reduceAdd, Nat.reduceSub, Array.replicate_succ, Array.replicate_zero, List.push_toArray, List.append_toArray, List.nil_append, List.cons_append]
  gi_wp2
  gi_loopw [3] (fun i wr => ∃ k : Nat, k ≤ len ∧ i = .int .i64 ((len : Int) - 1 - (k : Int)) ∧ J (upto (fun j => (len - 1 - j, byteAt bs hbs (len - 1 - j))) k) wr ∧ Keep2 Bs b W wr)
    (fun i _ => (intOf i + 1).toNat)
  case atStart => exact ⟨0, Nat.zero_le _, by simp, h0, Keep2.refl _ _ _⟩
  case round =>
    obtain ⟨k, hk, rfl, hJs, hnx⟩ := hrel
    have hBs' : wr.cell? ⟨Bs, 0, none⟩ = some (.slice (some ⟨b, off, none⟩) len cap) := (hnx.cx 0).trans hBs
    by_cases hlt : k < len
    · obtain ⟨m, hm⟩ : ∃ m, m = len - 1 - k := ⟨_, rfl⟩
      have em : (len : Int) - 1 - (k : Int) = (m : Int) := by omega
      have hm1 : m < len := by omega
      have hcx : wr.cell? ⟨b, off + m, none⟩ = some (.int .u8 (bs.getD m 0)) := (hnx.cy (off + m)).trans (HC.out m hm1)
      obtain ⟨fn, tmps, assign, body, hy, hR⟩ := hY _ (m, byteAt bs hbs m) wr hJs (by rw [upto_length]; exact hlt)
      dsimp only [encB, byteAt] at hy
      rw [em]
      have JJ : Hid (upto (fun j => (len - 1 - j, byteAt bs hbs (len - 1 - j))) (k + 1) = upto (fun j => (len - 1 - j, byteAt bs hbs (len - 1 - j))) k ++ [(m, byteAt bs hbs m)]) := by show _ = _; rw [upto_succ, ← hm]
      have MM : Hid ((len : Int) - 1 - (k : Int) = (m : Int)) := em
      clear em hm
      generalize bs.getD m 0 = x at *
      gi_wp2
      refine hR.mono ?_
      rintro e W3 (⟨rfl, hJ3, hk3⟩ | ⟨rfl, hJx3⟩)
      · gi_wp2
        go_roundw
        case rel => exact ⟨k + 1, by omega, by have := MM.out; congr 1; omega, by rw [JJ.out]; exact hJ3, hnx.trans hk3⟩
        case measure => simp [intOf]
      · gi_wp2
        refine bodyPost_ret (results_none rfl _ _ _) rfl ?_
        exact ⟨⟨_, rfl⟩, .inr ⟨_, ⟨k + 1, by omega, JJ.out.symm⟩, hJx3⟩⟩
    · obtain rfl : k = len := by omega
      have e1 : (k : Int) - 1 - (k : Int) = -1 := by omega
      rw [e1]
      gi_wp2
      go_end0
      exact ⟨⟨_, rfl⟩, .inl ⟨_, rfl, hJs⟩⟩

set_option maxHeartbeats 1000000 in
theorem backB_in (F : Fence) (n : Nat) (hF : F.fn 68) (hro : F.round = none) (a : Option Addr) (len cap : Nat) (w : World) :
    CallsIn F n Tryd.prog 68 #[.slice a len cap] w fun e w' => e = .returned (.func (.func 69) #[] #[.pointer (some ⟨w.heap.size, 0, none⟩)]) ∧ w' = w.alloc (.cells #[.slice a len cap] 32) := by
  refine callsIn_of_wp Tryd.func68 rfl hF ?_ hro
  simp only [Tryd.ntmps68, List.size_toArray, List.length_cons, List.length_nil, Nat.reduceAdd, Nat.reduceSub, Array.replicate_succ, Array.replicate_zero, List.push_toArray, List.append_toArray, List.nil_append, List.cons_append]
  gi_wp2
  go_ret
  exact ⟨rfl, rfl⟩
theorem backB_stops (F : Fence) (n : Nat) (hF : F.fn 69) (hro : F.round = none) (hn : 1 ≤ n) (Bs b off len cap : Nat) (bs : List Int) (hbs : Bys bs) (hreach : len ≤ 100000) (w : World) (hBs : Bs < w.heap.size) (hb : b < w.heap.size)
    (hB : w.cell? ⟨Bs, 0, none⟩ = some (.slice (some ⟨b, off, none⟩) len cap)) (hc : ∀ j, j < len → w.cell? ⟨b, off + j, none⟩ = some (.int .u8 (bs.getD j 0))) :
    SeqStopsK F n Tryd.prog 69 #[.pointer (some ⟨Bs, 0, none⟩)] encB (Keep2 Bs b) (fun ys => ys = upto (fun j => (len - 1 - j, byteAt bs hbs (len - 1 - j))) len) (fun pre => ∃ k, k ≤ len ∧ pre = upto (fun j => (len - 1 - j, byteAt bs hbs (len - 1 - j))) k) len w := fun l J Jx W hW _ _ hY h0 =>
  backB1_in F n hF hro hn l Bs b off len cap bs hbs hreach J Jx hY W ((hW.cell (p := ⟨Bs, 0, none⟩) hBs).trans hB) (fun j hj => (hW.cell (p := ⟨b, off + j, none⟩) hb).trans (hc j hj)) h0

def accB : List (Nat × B8) → Nat := List.foldl (fun u x => u * 256 % 18446744073709551616 + x.2.1.toNat) 0
theorem accB_snoc (pre : List (Nat × B8)) (x : Nat × B8) : accB (pre ++ [x]) = accB pre * 256 % 18446744073709551616 + x.2.1.toNat := by simp [accB]
theorem accB_lt (pre : List (Nat × B8)) : accB pre < 18446744073709551616 := by
  rcases List.eq_nil_or_concat pre with rfl | ⟨l, x, rfl⟩
  · simp [accB]
  · rw [List.concat_eq_append, accB_snoc]
    have := x.2.2
    omega

theorem or_byte (z x : Nat) (hx : x < 256) : bits .or .u64 (IntKind.u64.wrap ((z : Int) * 256)) (IntKind.u64.wrap (x : Int)) = ((z * 256 % 18446744073709551616 + x : Nat) : Int) := by
  have e1 : IntKind.u64.wrap ((z : Int) * 256) = ((z * 256 % 18446744073709551616 : Nat) : Int) := by
    simp [IntKind.wrap, IntKind.bits, IntKind.signed]
  have e2 : IntKind.u64.wrap (x : Int) = (x : Int) := by
    simp [IntKind.wrap, IntKind.bits, IntKind.signed]
    omega
  rw [e1, e2, u64_or_nat _ _ (by omega) (by omega)]
  congr 1
  have e3 : z * 256 % 18446744073709551616 = 2 ^ 8 * (z % 72057594037927936) := by omega
  rw [e3, Nat.two_pow_add_eq_or_of_lt (by omega : x < 2 ^ 8)]
theorem upB_drop {bs : List Int} (h : Bys bs) {i : Nat} (hi : i < bs.length) : upB (bs.drop i) = (bs.getD i 0).toNat + 256 * upB (bs.drop (i + 1)) := by
  rw [List.drop_eq_getElem_cons hi, upB]
  simp [List.getD, hi]
theorem pow256 {k : Nat} (h : k ≤ 7) : 256 ^ k ≤ 72057594037927936 := Nat.le_trans (Nat.pow_le_pow_right (by decide) h) (by decide)
theorem upB_drop_lt {bs : List Int} (h : Bys bs) {i : Nat} (hi : bs.length ≤ i + 7) : upB (bs.drop i) < 72057594037927936 := by
  have := upB_lt (bs.drop i) (h.drop i)
  have := pow256 (k := (bs.drop i).length) (by simp; omega)
  omega
theorem accB_all {bs : List Int} (h : Bys bs) (h8 : bs.length ≤ 8) : ∀ k, k ≤ bs.length → accB (upto (fun j => (bs.length - 1 - j, byteAt bs h (bs.length - 1 - j))) k) = upB (bs.drop (bs.length - k))
  | 0, _ => by simp [upto, accB, upB]
  | k + 1, hk => by
    rw [upto_succ, accB_snoc, accB_all h h8 k (by omega)]
    have hi : bs.length - (k + 1) < bs.length := by omega
    rw [upB_drop h hi]
    have e : bs.length - 1 - k = bs.length - (k + 1) := by omega
    have e' : bs.length - (k + 1) + 1 = bs.length - k := by omega
    rw [e, e']
    have lt := upB_drop_lt h (i := bs.length - k) (by omega)
    show upB (bs.drop (bs.length - k)) * 256 % 18446744073709551616 + (bs.getD (bs.length - (k + 1)) 0).toNat = _
    omega

set_option maxRecDepth 100000 in
set_option maxHeartbeats 2000000 in
theorem low_any (a : Option Addr) (n cap : Nat) (bs : List Int) (w : World) (h : By w a n cap bs) (h1 : 0 < n) (h8 : n ≤ 8) :
    Calls Tryd.prog 67 #[.slice a n cap] w fun e w' => e = .returned (.int .u64 (upB bs : Nat)) ∧ Below w.heap.size w w' := by
  refine (callsIn_wide (n := 3)).1 ?_
  obtain ⟨b, off, hA, hC⟩ := h.cell
  obtain rfl := hA h1
  have hlt : b < w.heap.size := World.block_lt_of_cell? _ _ (hC 0 h1)
  have hF : ∀ k, Fence.wide.fn k := fun _ => trivial
  refine callsIn_of_wp_marks Tryd.func67 rfl trivial ?_ rfl
  simp only [Tryd.ntmps67, List.size_toArray, List.length_cons, List.length_nil, Nat.reduceAdd, Nat.reduceSub, Array.replicate_succ, Array.replicate_zero, List.push_toArray, List.append_toArray, List.nil_append, List.cons_append]
  gi_wp2_with (gi_at_call 68; refine (backB_in Fence.wide (3 - 1) trivial rfl _ _ _ _).mono ?_; rintro e w' ⟨rfl, rfl⟩)
  have bS := Boxed.new w 43 (.int .u64 0)
  have bN := Boxed.new (w.alloc (.cells #[.int .u64 0] 43)) 32 (.slice (some ⟨b, off, none⟩) n cap)
  rw [World.size_alloc] at bN
  have hB0 : Below w.heap.size w ((w.alloc (.cells #[.int .u64 0] 43)).alloc (.cells #[.slice (some ⟨b, off, none⟩) n cap] 32)) := ((Below.refl _ w).alloc (Nat.le_refl _) _).alloc (by simp) _
  refine wpIn_rangeFunc_ownG rfl (by decide) (gf := 69) (lb := #[.pointer (some ⟨w.heap.size + 1, 0, none⟩)]) rfl trivial (enters_of Tryd.func69 (by kernel_rfl) rfl)
    (backB_stops Fence.wide (3 - 1) trivial rfl (by decide) (w.heap.size + 1) b off n cap bs h.ok (by omega) _ (by simp) (by simp; omega) bN.cell (fun j hj => (hB0.cell (p := ⟨b, off + j, none⟩) hlt).trans (hC j hj))) Keep2.trans (Keep2.put (by simp) (by simp; omega)) (Below.refl _ _) (fun _ => rfl)
    (fun pre W => (W.cell? ⟨w.heap.size, 0, none⟩ = some (.int .u64 (accB pre : Nat)) ∧ W.frozen? ⟨w.heap.size, 0, none⟩ = false) ∧ Below w.heap.size w W)
    (fun _ _ _ => False)
    (OwnFrom.and (Own.from (fun s A B row hs hg hr => ⟨cell_kept hs.1 hg hr, (frozen_kept hs.1 hg hr).trans hs.2⟩) _) (ownFrom_below (Nat.le_refl _) (by simp; omega)))
    (fun _ _ _ _ _ hs _ _ => hs)
    ⟨⟨(bS.alloc _).cell, (bS.alloc _).frozen⟩, hB0⟩
    (fun x => { tmps := #[.slice (some ⟨b, off, none⟩) n cap, undef, .int .u64 0, .pointer (some ⟨w.heap.size, 0, none⟩), undef, .int .u8 x.2.1, .slice (some ⟨b, off, none⟩) n cap, .func (.func 69) #[] #[.pointer (some ⟨w.heap.size + 1, 0, none⟩)], .int .i64 (x.1 : Nat), .int .u8 x.2.1, undef, undef, undef, undef, undef, undef], defers := [] }) ?assign ?body ?done ?stop
  case assign =>
    intro l x W K hK
    dsimp only [encB]
    gi_wp2
    exact hK
  case body =>
    rintro l pre x W ⟨⟨hc, hf⟩, hB⟩ _
    gi_wp2
    refine ⟨(KeepsOthers.setCell _ _ _).from _, Keep2.set _ _ (by omega) (by omega), ⟨?_, by rw [World.frozen?_setCell]; exact hf⟩, hB.setCell (p := ⟨w.heap.size, 0, none⟩) (Nat.le_refl _) _⟩
    rw [World.cell?_setCell_same' _ _ _ (by rw [hc]; rfl), accB_snoc]
    have hx := x.2.2
    obtain ⟨z, hz⟩ : ∃ z : Nat, x.2.1 = z := ⟨x.2.1.toNat, by omega⟩
    rw [hz, or_byte _ _ (by omega)]
    rfl
  case done =>
    rintro D ys W hD rfl ⟨⟨hc, _⟩, hB⟩ hK
    gi_wp2
    refine ⟨by simp, .inl ⟨_, _, rfl, run_takeDeferred hK, ?_⟩⟩
    have e := accB_all h.ok (by rw [h.len]; exact h8) n (by rw [h.len]; exact Nat.le_refl _)
    rw [h.len, Nat.sub_self, List.drop_zero] at e
    refine ⟨_, results_tmp rfl _ _ _, ?_, hB.trans (belowK_b (w := w) (Nat.le_refl _) W D _ _ (by simp at hD; omega) hK rfl rfl)⟩
    exact ret_int (by rw [e])
  case stop =>
    rintro D c pre W _ _ h _
    exact h.elim

end Go.Proofs.YtblmfkdcahhhbaaDoor
