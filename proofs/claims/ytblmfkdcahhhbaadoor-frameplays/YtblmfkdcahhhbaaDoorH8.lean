/- slices.Backward over slices of bytes: the iterator's contract; writes, one behind the other. -/
import Derived.Test.YtblmfkdcahhhbaaDoorH7
namespace Go.Proofs.YtblmfkdcahhhbaaDoor
open Go.RowKit Go.Shelf
set_option linter.unusedVariables false
set_option linter.unusedSimpArgs false
attribute [local go_sem] Oper.semAt_some

abbrev Ix (n : Nat) := { i : Nat // i < n }
abbrev Sv := Option Addr × Nat × Nat
def svOf (x : Sv) : Value := .slice x.1 x.2.1 x.2.2
def encS (n : Nat) (A : Nat → Sv) (x : Ix n) : Array Value := #[.int .i64 (x.1 : Nat), svOf (A x.1)]
/-- The last k, the last one first. -/
def backs (n : Nat) : Nat → List (Ix n)
  | 0 => []
  | k + 1 => if h : k < n then backs n k ++ [⟨n - 1 - k, by omega⟩] else backs n k
theorem backs_succ {n k : Nat} (h : k < n) : backs n (k + 1) = backs n k ++ [⟨n - 1 - k, by omega⟩] := by rw [backs, dif_pos h]
theorem backs_len {n : Nat} : ∀ {k : Nat}, k ≤ n → (backs n k).length = k
  | 0, _ => rfl
  | k + 1, h => by rw [backs_succ (by omega), List.length_append, backs_len (by omega)]; rfl

set_option maxRecDepth 100000 in
set_option maxHeartbeats 2000000 in
theorem backS1_in (n : Nat) (hn : 1 ≤ n) (l Bs b len cap : Nat) (A : Nat → Sv) (hreach : len ≤ 100000) (J Jx : List (Ix len) → World → Prop)
    (hY : ∀ pre x W, J pre W → pre.length < len → YieldAt Fence.wide (n - 1) Tryd.prog l (encS len A x) W fun e W' =>
      (e = .returned (.bool true) ∧ J (pre ++ [x]) W' ∧ Keep2 Bs b W W') ∨ (e = .returned (.bool false) ∧ Jx (pre ++ [x]) W'))
    (W : World) (hBs : W.cell? ⟨Bs, 0, none⟩ = some (.slice (some ⟨b, 0, none⟩) len cap)) (hc : ∀ j, j < len → W.cell? ⟨b, j, none⟩ = some (svOf (A j))) (h0 : J [] W) :
    CallsIn Fence.wide n Tryd.prog 54 #[.func (.yield l) #[] #[], .pointer (some ⟨Bs, 0, none⟩)] W fun e W' => (∃ v, e = .returned v) ∧
      ((∃ ys, ys = backs len len ∧ J ys W') ∨ (∃ pre, (∃ k, k ≤ len ∧ pre = backs len k) ∧ Jx pre W')) := by
  have hl' : (len : Int) ≤ 100000 := by omega
  have HC : Hid _ := hc
  clear hc
  refine callsIn_of_wp Tryd.func54 rfl trivial ?_ rfl
  simp only [Tryd.ntmps54, List.size_toArray, List.length_cons, List.length_nil, Nat.reduceAdd, Nat.reduceSub, Array.replicate_succ, Array.replicate_zero, List.push_toArray, List.append_toArray, List.nil_append, List.cons_append]
  gi_wp2
  gi_loopw [3] (fun i wr => ∃ k : Nat, k ≤ len ∧ i = .int .i64 ((len : Int) - 1 - (k : Int)) ∧ J (backs len k) wr ∧ Keep2 Bs b W wr)
    (fun i _ => (intOf i + 1).toNat)
  case atStart => exact ⟨0, Nat.zero_le _, by simp, h0, Keep2.refl _ _ _⟩
  case round =>
    obtain ⟨k, hk, rfl, hJs, hnx⟩ := hrel
    have hBs' : wr.cell? ⟨Bs, 0, none⟩ = some (.slice (some ⟨b, 0, none⟩) len cap) := (hnx.cx 0).trans hBs
    by_cases hlt : k < len
    · obtain ⟨m, hm⟩ : ∃ m, m = len - 1 - k := ⟨_, rfl⟩
      have em : (len : Int) - 1 - (k : Int) = (m : Int) := by omega
      have hm1 : m < len := by omega
      have hcx : wr.cell? ⟨b, m, none⟩ = some (svOf (A m)) := (hnx.cy m).trans (HC.out m hm1)
      obtain ⟨fn, tmps, assign, body, hy, hR⟩ := hY _ ⟨m, hm1⟩ wr hJs (by rw [backs_len hk]; exact hlt)
      dsimp only [encS] at hy
      rw [em]
      have JJ : Hid (backs len (k + 1) = backs len k ++ [⟨m, hm1⟩]) := by
        show _ = _
        rw [backs_succ hlt]
        simp [hm]
      have MM : Hid ((len : Int) - 1 - (k : Int) = (m : Int)) := em
      clear em hm
      obtain ⟨a1, a2, a3⟩ : Sv := A m
      generalize hv : A m = x at *
      obtain ⟨x1, x2, x3⟩ := x
      dsimp only [svOf] at hcx hy
      clear hv
      gi_wp2
      refine hR.mono ?_
      rintro e W3 (⟨rfl, hJ3, hk3⟩ | ⟨rfl, hJx3⟩)
      · gi_wp2
        go_roundw
        case rel => exact ⟨k + 1, by omega, by have := MM.out; congr 1; omega, by rw [JJ.out]; exact hJ3, hnx.trans hk3⟩
        case measure => simp [intOf]
      · gi_wp2
        refine bodyPost_ret (results_none rfl _ _ _) rfl ?_
        exact ⟨⟨_, rfl⟩, .inr ⟨_, ⟨k + 1, by omega, JJ.out.symm⟩, hJx3⟩⟩
    · obtain rfl : k = len := by omega
      have e1 : (k : Int) - 1 - (k : Int) = -1 := by omega
      rw [e1]
      gi_wp2
      go_end0
      first | exact ⟨⟨_, rfl⟩, .inl hJs⟩ | exact ⟨⟨_, rfl⟩, .inl ⟨_, rfl, hJs⟩⟩
set_option maxHeartbeats 1000000 in
theorem backS_any (a : Option Addr) (len cap : Nat) (w : World) :
    Calls Tryd.prog 35 #[.slice a len cap] w fun e w' => e = .returned (.func (.func 54) #[] #[.pointer (some ⟨w.heap.size, 0, none⟩)]) ∧ w.alloc (.cells #[.slice a len cap] 57) = w' := by
  go_enter Tryd.func35, Tryd.ntmps35
  go_wp2
  go_ret
  exact ⟨rfl, rfl⟩
theorem backS_stops (n : Nat) (hn : 1 ≤ n) (Bs b len cap : Nat) (A : Nat → Sv) (hreach : len ≤ 100000) (w : World) (hBs : Bs < w.heap.size) (hb : b < w.heap.size)
    (hB : w.cell? ⟨Bs, 0, none⟩ = some (.slice (some ⟨b, 0, none⟩) len cap)) (hc : ∀ j, j < len → w.cell? ⟨b, j, none⟩ = some (svOf (A j))) :
    SeqStopsK Fence.wide n Tryd.prog 54 #[.pointer (some ⟨Bs, 0, none⟩)] (encS len A) (Keep2 Bs b) (fun ys => ys = backs len len) (fun pre => ∃ k, k ≤ len ∧ pre = backs len k) len w := fun l J Jx W hW _ _ hY h0 =>
  backS1_in n hn l Bs b len cap A hreach J Jx hY W ((hW.cell (p := ⟨Bs, 0, none⟩) hBs).trans hB) (fun j hj => (hW.cell (p := ⟨b, j, none⟩) hb).trans (hc j hj)) h0

/-- Writes in a row's order. -/
def wfold (N base : Nat) (f : Nat → List Int) {n : Nat} (pre : List (Ix n)) (s : St) : St := pre.foldl (fun s x => wS N s ((base + x.1 : Nat) : Int) (f x.1)) s
theorem wfold_snoc {N base : Nat} {f : Nat → List Int} {n : Nat} (pre : List (Ix n)) (x : Ix n) (s : St) : wfold N base f (pre ++ [x]) s = wS N (wfold N base f pre s) ((base + x.1 : Nat) : Int) (f x.1) := by simp [wfold]
/-- All of them went well. -/
def allOk (N base : Nat) (f : Nat → List Int) {n : Nat} (s : St) (pre : List (Ix n)) : Prop := ∀ ini x, (ini ++ [x]) <+: pre → wE N (wfold N base f ini s) ((base + x.1 : Nat) : Int) (f x.1) = 0
theorem allOk.nil {N base : Nat} {f : Nat → List Int} {n : Nat} {s : St} : allOk N base f s ([] : List (Ix n)) := fun ini x h => by simp at h
theorem allOk.snoc {N base : Nat} {f : Nat → List Int} {n : Nat} {s : St} {pre : List (Ix n)} {x : Ix n} (h : allOk N base f s pre) (hx : wE N (wfold N base f pre s) ((base + x.1 : Nat) : Int) (f x.1) = 0) : allOk N base f s (pre ++ [x]) := fun ini y hy => by
  rcases List.prefix_concat_iff.1 hy with e | e
  · obtain ⟨rfl, e2⟩ := List.append_inj' e rfl
    simp at e2; subst e2; exact hx
  · exact h ini y e
theorem allOk.pre {N base : Nat} {f : Nat → List Int} {n : Nat} {s : St} {pre pre' : List (Ix n)} (h : allOk N base f s pre) (hp : pre' <+: pre) : allOk N base f s pre' := fun ini x hx => h ini x (hx.trans hp)
theorem allOk.last {N base : Nat} {f : Nat → List Int} {n : Nat} {s : St} {pre : List (Ix n)} {x : Ix n} (h : allOk N base f s (pre ++ [x])) : wE N (wfold N base f pre s) ((base + x.1 : Nat) : Int) (f x.1) = 0 := h pre x (List.prefix_refl _)
theorem wrs_backs {N base : Nat} {f : Nat → List Int} {n : Nat} {s : St} : ∀ k, k ≤ n → allOk N base f s (backs n k) → wrs N base f n s = wrs N base f (n - k) (wfold N base f (backs n k) s)
  | 0, _, _ => rfl
  | k + 1, hk, h => by
    rw [backs_succ (by omega)] at h
    rw [wrs_backs k (by omega) (h.pre (List.prefix_append _ _)), backs_succ (by omega), wfold_snoc]
    have e : n - k = (n - (k + 1)) + 1 := by omega
    have e2 : n - 1 - k = n - (k + 1) := by omega
    have hl := h.last
    dsimp only at hl ⊢
    rw [e2] at hl ⊢
    rw [e, wrs_go hl]
theorem wrs_all {N base : Nat} {f : Nat → List Int} {n : Nat} {s : St} (h : allOk N base f s (backs n n)) : wrs N base f n s = (0, wfold N base f (backs n n) s) := by
  rw [wrs_backs n (Nat.le_refl _) h, Nat.sub_self]; rfl
theorem wrs_cut {N base : Nat} {f : Nat → List Int} {n : Nat} {s : St} {ini : List (Ix n)} {x : Ix n} {k : Nat} (hk : k ≤ n) (e : backs n k = ini ++ [x]) (h : allOk N base f s ini) (hx : wE N (wfold N base f ini s) ((base + x.1 : Nat) : Int) (f x.1) ≠ 0) : wrs N base f n s = (wE N (wfold N base f ini s) ((base + x.1 : Nat) : Int) (f x.1), wfold N base f (backs n k) s) := by
  cases k with
  | zero => simp [backs] at e
  | succ k =>
    rw [backs_succ (by omega)] at e
    obtain ⟨rfl, e2⟩ := List.append_inj' e rfl
    simp at e2
    rw [wrs_backs k (by omega) h, backs_succ (by omega), wfold_snoc]
    have e1 : n - k = (n - (k + 1)) + 1 := by omega
    have e3 : x.1 = n - (k + 1) := by rw [← e2]; show n - 1 - k = _; omega
    rw [e3] at hx ⊢
    rw [e1, wrs_end hx]
    congr 1
    have e4 : n - 1 - k = n - (k + 1) := by omega
    show _ = wS N _ ((base + (n - 1 - k) : Nat) : Int) (f (n - 1 - k))
    rw [e4]

end Go.Proofs.YtblmfkdcahhhbaaDoor
