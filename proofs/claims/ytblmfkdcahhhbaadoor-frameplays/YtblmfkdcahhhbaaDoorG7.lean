/- slices.Chunk: the iterator's contract. -/
import Derived.Test.YtblmfkdcahhhbaaDoorG6
import Derived.Deep.QuietTactic
import Derived.BigQuiet
namespace Go.Proofs.YtblmfkdcahhhbaaDoor
open Go.RowKit Go.Shelf
set_option linter.unusedVariables false
set_option linter.unusedSimpArgs false
attribute [local go_sem] Oper.semAt_some

/-- How long the chunk j of L bytes is. -/
def chl (L j : Nat) : Nat := min 63 (L - 63 * j)
def chs (L : Nat) : Nat := (L + 62) / 63
abbrev Ch (L : Nat) := { j : Nat // j < chs L }
def encC (L : Nat) (b o : Nat) (x : Ch L) : Array Value := #[.slice (some ⟨b, o + 63 * x.1, none⟩) (chl L x.1) (chl L x.1)]
/-- The first k chunks. -/
def firsts (L : Nat) : Nat → List (Ch L)
  | 0 => []
  | k + 1 => if h : k < chs L then firsts L k ++ [⟨k, h⟩] else firsts L k
theorem firsts_succ {L k : Nat} (h : k < chs L) : firsts L (k + 1) = firsts L k ++ [⟨k, h⟩] := by rw [firsts, dif_pos h]
theorem firsts_len {L : Nat} : ∀ {k : Nat}, k ≤ chs L → (firsts L k).length = k
  | 0, _ => rfl
  | k + 1, h => by rw [firsts_succ (by omega), List.length_append, firsts_len (by omega)]; rfl

set_option maxRecDepth 100000 in
set_option maxHeartbeats 2000000 in
theorem chunk1_in (n : Nat) (hn : 1 ≤ n) (l Bs Bn b o L cap : Nat) (a : Option Addr) (hA : 0 < L → a = some ⟨b, o, none⟩) (hL : L ≤ cap) (hm : cap ≤ maxLen) (hL5 : L ≤ 100000) (J Jx : List (Ch L) → World → Prop)
    (hY : ∀ pre x W, J pre W → pre.length < chs L → YieldAt Fence.wide (n - 1) Tryd.prog l (encC L b o x) W fun e W' =>
      (e = .returned (.bool true) ∧ J (pre ++ [x]) W' ∧ Keep2 Bs Bn W W') ∨ (e = .returned (.bool false) ∧ Jx (pre ++ [x]) W'))
    (hD : ∀ pre W k, J pre W → J pre (W.drewN k))
    (W : World) (hBs : W.cell? ⟨Bs, 0, none⟩ = some (.slice a L cap)) (hBn : W.cell? ⟨Bn, 0, none⟩ = some (.int .i64 63)) (h0 : J [] W) :
    CallsIn Fence.wide n Tryd.prog 63 #[.func (.yield l) #[] #[], .pointer (some ⟨Bs, 0, none⟩), .pointer (some ⟨Bn, 0, none⟩)] W fun e W' => (∃ v, e = .returned v) ∧
      ((∃ ys, ys = firsts L (chs L) ∧ J ys W') ∨ (∃ pre, (∃ k, k ≤ chs L ∧ pre = firsts L k) ∧ Jx pre W')) := by
  have hL1 : (L : Int) ≤ (cap : Int) := by omega
  have hL2 : (cap : Int) ≤ 9223372036854775807 := by unfold maxLen at hm; omega
  have hL3 : (L : Int) ≤ 100000 := by omega
  refine callsIn_of_wp Tryd.func63 rfl trivial ?_ rfl
  simp only [Tryd.ntmps63, List.size_toArray, List.length_cons, List.length_nil, Nat.reduceAdd, Nat.reduceSub, Array.replicate_succ, Array.replicate_zero, List.push_toArray, List.append_toArray, List.nil_append, List.cons_append]
  gi_wp2
  gi_loopw [4] (fun i wr => ∃ k : Nat, k ≤ chs L ∧ i = .int .i64 (63 * (k : Int)) ∧ J (firsts L k) wr ∧ Keep2 Bs Bn W wr)
    (fun i _ => chs L - (intOf i / 63).toNat)
  case atStart => exact ⟨0, Nat.zero_le _, by simp, h0, Keep2.refl _ _ _⟩
  case round =>
    obtain ⟨k, hk, rfl, hJs, hnx⟩ := hrel
    have hBs' : wr.cell? ⟨Bs, 0, none⟩ = some (.slice a L cap) := (hnx.cx 0).trans hBs
    have hBn' : wr.cell? ⟨Bn, 0, none⟩ = some (.int .i64 63) := (hnx.cy 0).trans hBn
    by_cases hlt : k < chs L
    · have hkL : 63 * k < L := by unfold chs at hlt; omega
      obtain rfl := hA (by omega)
      have hk1 : 63 * (k : Int) < (L : Int) := by omega
      have hcl : chl L k ≤ 63 ∧ 1 ≤ chl L k ∧ 63 * k + chl L k ≤ L := by unfold chl; omega
      have EC : Hid ((63 : Int) ≤ (L : Int) - 63 * (k : Int) ∧ chl L k = 63 ∨ (L : Int) - 63 * (k : Int) < 63 ∧ (chl L k : Int) = (L : Int) - 63 * (k : Int)) := by
        show _ ∨ _
        unfold chl; omega
      have FZ : Hid (firsts L (k + 1) = firsts L k ++ [⟨k, hlt⟩]) := firsts_succ hlt
      have FL : Hid ((firsts L k).length < chs L) := by show _ < _; rw [firsts_len hk]; exact hlt
      gi_wp2
      refine wpIn_wide.2 ?_
      obtain ⟨m, hm⟩ : ∃ m, m = chl L k := ⟨_, rfl⟩
      rw [← hm] at hcl
      have e5 : (if ((L - 63 * k : Nat) : Int) < 63 then ((L - 63 * k : Nat) : Int) else 63) = (m : Int) := by
        rw [hm]; unfold chl; split <;> omega
      have c1 : (m : Int) ≤ 63 := by omega
      have c2 : (1 : Int) ≤ (m : Int) := by omega
      have c3 : 63 * (k : Int) + (m : Int) ≤ (L : Int) := by omega
      have c4 : 63 * (k : Int) + (m : Int) ≤ (cap : Int) := by omega
      have HMC : Hid (m = chl L k) := hm
      clear hm hcl
      go_quiet (fail)
      obtain ⟨fn, tmps, assign, body, hy, hR⟩ := hY _ ⟨k, hlt⟩ (wr.drewN nq) (hD _ _ nq hJs) FL.out
      dsimp only [encC] at hy
      rw [← HMC.out] at hy
      have hnx' : Keep2 Bs Bn W (wr.drewN nq) := hnx
      have hBs9 : (wr.drewN nq).cell? ⟨Bs, 0, none⟩ = some (.slice (some ⟨b, o, none⟩) L cap) := hBs'
      clear hBs' hBn' hnx hJs e5
      generalize wr.drewN nq = w9 at *
      have c5 : 63 * (k : Int) ≤ 63 * (k : Int) + (m : Int) := by omega
      have t1 : (63 * (k : Int) + (m : Int)).toNat - 63 * k = m := by omega
      gi_wp2
      refine hR.mono ?_
      rintro e W3 (⟨rfl, hJ3, hk3⟩ | ⟨rfl, hJx3⟩)
      · have hBn3 : W3.cell? ⟨Bn, 0, none⟩ = some (.int .i64 63) := ((hnx'.trans hk3).cy 0).trans hBn
        gi_wp2
        go_roundw
        case rel => exact ⟨k + 1, by omega, by congr 1, by rw [FZ.out]; exact hJ3, hnx'.trans hk3⟩
        case measure =>
          show chs L - ((63 * (k : Int) + 63) / 63).toNat < chs L - ((63 * (k : Int)) / 63).toNat
          omega
      · gi_wp2
        refine bodyPost_ret (results_none rfl _ _ _) rfl ?_
        exact ⟨⟨_, rfl⟩, .inr ⟨_, ⟨k + 1, by omega, FZ.out.symm⟩, hJx3⟩⟩
    · obtain rfl : k = chs L := by omega
      have hkL : ¬ 63 * ((chs L : Nat) : Int) < (L : Int) := by unfold chs; omega
      gi_wp2
      go_end0
      exact ⟨⟨_, rfl⟩, .inl hJs⟩

set_option maxHeartbeats 1000000 in
theorem chunk_any (a : Option Addr) (len cap : Nat) (w : World) :
    Calls Tryd.prog 53 #[.slice a len cap, .int .i64 63] w fun e w' => e = .returned (.func (.func 63) #[] #[.pointer (some ⟨w.heap.size, 0, none⟩), .pointer (some ⟨w.heap.size + 1, 0, none⟩)]) ∧ (w.alloc (.cells #[.slice a len cap] 32)).alloc (.cells #[.int .i64 63] 3) = w' := by
  go_enter Tryd.func53, Tryd.ntmps53
  go_wp2
  go_ret
  exact ⟨rfl, rfl⟩
theorem drewN_grown (W : World) (k : Nat) : W.grownBy (W.drewN k) none := ⟨rfl, rfl, rfl, Nat.le_refl _, fun _ _ _ => rfl⟩
theorem chunk_stops (n : Nat) (hn : 1 ≤ n) (Bs Bn b o L cap : Nat) (a : Option Addr) (hA : 0 < L → a = some ⟨b, o, none⟩) (hL : L ≤ cap) (hm : cap ≤ maxLen) (hL5 : L ≤ 100000) (w : World) (h1 : Bs < w.heap.size) (h2 : Bn < w.heap.size)
    (hBs : w.cell? ⟨Bs, 0, none⟩ = some (.slice a L cap)) (hBn : w.cell? ⟨Bn, 0, none⟩ = some (.int .i64 63)) :
    SeqStopsK Fence.wide n Tryd.prog 63 #[.pointer (some ⟨Bs, 0, none⟩), .pointer (some ⟨Bn, 0, none⟩)] (encC L b o) (Keep2 Bs Bn) (fun ys => ys = firsts L (chs L)) (fun pre => ∃ k, k ≤ chs L ∧ pre = firsts L k) (chs L) w := fun l J Jx W hW hJ _ hY h0 =>
  chunk1_in n hn l Bs Bn b o L cap a hA hL hm hL5 J Jx hY (fun pre W k h => hJ pre W _ none h (drewN_grown W k) (fun r e => by cases e)) W ((hW.cell (p := ⟨Bs, 0, none⟩) h1).trans hBs) ((hW.cell (p := ⟨Bn, 0, none⟩) h2).trans hBn) h0

end Go.Proofs.YtblmfkdcahhhbaaDoor
