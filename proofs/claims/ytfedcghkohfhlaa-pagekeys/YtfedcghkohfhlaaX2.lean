/- The walks over package page: Find, Kid. -/
import Derived.Test.YtfedcghkohfhlaaX1
import Derived.Shelf.Spec.SearchS
namespace Go.Proofs.Ytfedcghkohfhlaa
open Go.Shelf Go.RowKit
set_option linter.unusedVariables false
set_option linter.unusedSimpArgs false

def renB : Ren := ⟨fun | 26 => 48 | 33 => 65 | 34 => 66 | 38 => 72 | n => n, fun | 9 => 9 | 24 => 23 | 40 => 90 | n => n, fun n => n⟩
theorem laysB : Lays2.n26 Try.prog renB :=
  { mixed := by kernel_rfl
    f26 := by kernel_rfl
    f33 := by kernel_rfl
    f34 := by kernel_rfl
    f38 := by kernel_rfl
    t0 := by kernel_rfl
    a0 := fun _ => by kernel_rfl
    z0 := fun _ => by kernel_rfl
    v0 := fun _ => by kernel_rfl
    t3 := by kernel_rfl
    a3 := fun _ => by kernel_rfl
    z3 := fun _ => by kernel_rfl
    v3 := fun _ => by kernel_rfl
    t4 := by kernel_rfl
    a4 := fun _ => by kernel_rfl
    z4 := fun _ => by kernel_rfl
    v4 := fun _ => by kernel_rfl
    t9 := by kernel_rfl
    a9 := fun _ => by kernel_rfl
    z9 := fun _ => by kernel_rfl
    v9 := fun _ => by kernel_rfl
    t24 := by kernel_rfl
    a24 := fun _ => by kernel_rfl
    z24 := fun _ => by kernel_rfl
    v24 := fun _ => by kernel_rfl
    t40 := by kernel_rfl
    a40 := fun _ => by kernel_rfl
    z40 := fun _ => by kernel_rfl
    v40 := fun _ => by kernel_rfl }

theorem BS_any (a : Option Addr) (n cap : Nat) (ks : List ByteArray) (x : ByteArray) (w : World) (h : Sl w a n cap (sv ks)) (R : Rise ks) (hn : n ≤ 100000) :
    Calls Try.prog 48 #[.slice a n cap, .string x] w fun e w' => e = .returned (.tuple #[.int .i64 (posS ks x : Nat), .bool (fnd ks x)]) ∧ Below w.heap.size w w' := by
  have hl := h.slen
  rcases Nat.eq_zero_or_pos n with q | q
  · subst q
    obtain rfl : ks = [] := List.length_eq_zero_iff.1 hl
    refine (Any2.slices_BinarySearch_string_empty laysB a cap x w).mono ?_
    rintro e w' ⟨rfl, rfl⟩
    exact ⟨rfl, Below.refl _ _⟩
  · obtain ⟨b, o, rfl, _⟩ := h.at q
    obtain ⟨Sx, hS⟩ : ∃ Sx : Nat → ByteArray, Sx = fun t => if t < n then kAt ks t else x := ⟨_, rfl⟩
    have s1 : ∀ t, t < n → Sx t = kAt ks t := fun t ht => by rw [hS]; simp [ht]
    have s2 : ∀ t, n ≤ t → Sx t = x := fun t ht => by rw [hS]; simp; omega
    have pl := pos_le ks x
    have E : Lib.bsGo (fun t => Op.bytesLess (Sx t).toList x.toList) n 0 n = posS ks x := by
      refine Lib.bsGo_spec _ (posS ks x) (fun t ht => ?_) (fun t ht => ?_) n 0 n (by omega) (Nat.zero_le _) (by omega)
      · rw [s1 t (by omega)]; exact pos_lt ht
      · rcases Nat.lt_or_ge t n with r | r
        · rw [s1 t r]; exact pos_gt R ht (by omega)
        · rw [s2 t r]; exact ltS_irrefl x
    refine (Any2.slices_BinarySearch_string laysB b o n cap Sx x w (by omega) (fun j hj => by rw [s1 j hj]; exact h.str hj)).mono ?_
    rintro e w' ⟨rfl, k, rfl⟩
    refine ⟨?_, drewB w k⟩
    rw [E]
    have e2 : decide (posS ks x < n ∧ Sx (posS ks x) = x) = fnd ks x := by
      unfold fnd
      rw [hl]
      by_cases c : posS ks x < n
      · rw [s1 _ c]
      · rw [decide_eq_false (by omega), decide_eq_false (by omega)]
    rw [e2]

set_option maxHeartbeats 1000000 in
theorem Find_leaf (v : Value) (p : Pg) (key : ByteArray) (w : World) (h : Pv w v p) (f : Bd p) (R : Rise p.keys) (hl : p.leaf = true) :
    Calls Try.prog 24 #[v, .string key] w fun e w' => e = .returned (.tuple #[.int .i64 (posS p.keys key : Nat), .bool (fnd p.keys key)]) ∧ Below w.heap.size w w' := by
  obtain ⟨ka, kn, kc, va, vn, vc, ia, im, ic, rfl, h1, h2, h3⟩ := h.ex
  obtain ⟨lf, ks, vs, is⟩ := p
  simp only at h1 h2 h3 hl R ⊢
  subst hl
  have b1 := f.keys
  have l1 := h1.slen
  simp only at b1
  have K : Hid _ := fun o => BS_any ka kn kc ks key (w.alloc o) (h1.below (allocB w o)) R (by omega)
  generalize posS ks key = P at *
  generalize fnd ks key = F at *
  clear h h1 h2 h3 f R
  go_enter Try.func24, Try.ntmps24
  go_wp2_with (go_at_call 48; refine Calls.mono (K.out _) ?_; rintro e w1 ⟨rfl, b1⟩)
  go_ret2
  exact ⟨rfl, nextB (allocB w _) b1⟩
theorem Find_branch (v : Value) (p : Pg) (key : ByteArray) (w : World) (h : Pv w v p) (hl : p.leaf = false) :
    Calls Try.prog 24 #[v, .string key] w fun e w' => e = .returned (.tuple #[.int .i64 0, .bool false]) ∧ Below w.heap.size w w' := by
  obtain ⟨ka, kn, kc, va, vn, vc, ia, im, ic, rfl, h1, h2, h3⟩ := h.ex
  obtain ⟨lf, ks, vs, is⟩ := p
  simp only at hl ⊢
  subst hl
  clear h h1 h2 h3
  go_enter Try.func24, Try.ntmps24
  go_wp2
  go_ret2
  exact ⟨rfl, allocB w _⟩
theorem Kid_leaf (v : Value) (p : Pg) (key : ByteArray) (w : World) (h : Pv w v p) (hl : p.leaf = true) :
    Calls Try.prog 22 #[v, .string key] w fun e w' => e = .returned (.int .i64 0) ∧ Below w.heap.size w w' := by
  obtain ⟨ka, kn, kc, va, vn, vc, ia, im, ic, rfl, h1, h2, h3⟩ := h.ex
  obtain ⟨lf, ks, vs, is⟩ := p
  simp only at hl ⊢
  subst hl
  clear h h1 h2 h3
  go_enter Try.func22, Try.ntmps22
  go_wp2
  go_ret
  exact ⟨rfl, allocB w _⟩
set_option maxHeartbeats 1000000 in
theorem Kid_branch (v : Value) (p : Pg) (key : ByteArray) (w : World) (h : Pv w v p) (f : Bd p) (R : Rise p.keys) (hl : p.leaf = false) :
    Calls Try.prog 22 #[v, .string key] w fun e w' => e = .returned (.int .i64 (plS p.keys key : Nat)) ∧ Below w.heap.size w w' := by
  obtain ⟨ka, kn, kc, va, vn, vc, ia, im, ic, rfl, h1, h2, h3⟩ := h.ex
  obtain ⟨lf, ks, vs, is⟩ := p
  simp only at h1 h2 h3 hl R ⊢
  subst hl
  have b1 := f.keys
  have l1 := h1.slen
  simp only at b1
  have K : Hid _ := fun o => BS_any ka kn kc ks key (w.alloc o) (h1.below (allocB w o)) R (by omega)
  have PL := pos_le ks key
  have E : Hid (plS ks key = posS ks key + (if fnd ks key then 1 else 0)) := rfl
  generalize plS ks key = L at *
  generalize posS ks key = P at *
  generalize fnd ks key = F at *
  have n1 : P ≤ 90000 := by omega
  clear h h1 h2 h3 f R PL
  cases F with
  | true =>
    go_enter Try.func22, Try.ntmps22
    go_wp2_with (go_at_call 48; refine Calls.mono (K.out _) ?_; rintro e w1 ⟨rfl, b1⟩)
    go_ret
    exact ⟨retV (by rw [E.out]; simp), nextB (allocB w _) b1⟩
  | false =>
    go_enter Try.func22, Try.ntmps22
    go_wp2_with (go_at_call 48; refine Calls.mono (K.out _) ?_; rintro e w1 ⟨rfl, b1⟩)
    go_ret
    exact ⟨retV (by rw [E.out]; simp), nextB (allocB w _) b1⟩

end Go.Proofs.Ytfedcghkohfhlaa
