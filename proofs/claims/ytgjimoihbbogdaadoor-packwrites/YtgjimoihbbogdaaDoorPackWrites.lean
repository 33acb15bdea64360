/- Proved: the law PackWrites of package publicanlaw3 returns true for every row of bytes, every two numbers of 64 bits and every text, whatever memory it starts in, on every schedule; the table of package pack holds what the program's text lays (the card ties it to that text). -/
import Derived.Test.YtgjimoihbbogdaaDoorCards
import Derived.Test.YtgjimoihbbogdaaDoorTie
import Derived.Test.YtgjimoihbbogdaaDoorW9
import Derived.Test.YtgjimoihbbogdaaDoorR1
import Derived.Test.YtgjimoihbbogdaaDoorR2
import Derived.Deep.DeepCutAuto
import Derived.Deep.RegionHeld3
namespace Go.Proofs.YtgjimoihbbogdaaDoor.packWrites
open Go.ChangeMaps (open_string shut_string)
open Go.ChangeShapes Go.WideShapes Go.ChangeAt Go.RowKit
set_option linter.unusedVariables false

/-- What is held of the world may be said more strongly on the way. -/
theorem wpAnyH_strong {P : Program} {md : Region.Mode} {ops : Array Oper} {Q : Exit → Act → World → Prop} {S S' : World → Prop} (h : ∀ w, S' w → S w) : ∀ (fuel : Nat) (listed : Array Bool) (a : Act) (w : World), wpAnyH P md ops Q S' fuel listed a w → wpAnyH P md ops Q S fuel listed a w
  | 0, _, _, _, k => k
  | fuel + 1, _, _, _, k => ⟨k.1, fun i hi => wpOp_mono (fun a' w' h' => ⟨h _ h'.1, wpAnyH_strong h fuel _ a' w' h'.2⟩) (k.2 i hi)⟩

theorem take2 {P : Program} {md : Region.Mode} {ops : Array Oper} {Q : Exit → Act → World → Prop} {S : World → Prop} {l : List Oper} (hl : ops = l.toArray) {i : Nat} {oi : Oper} {v : Value} {d : Tmp} {fuel : Nat} {listed : Array Bool} {a : Act} {w : World} (hi : l[i]? = some oi) (hd : oi.dst = some d)
    (hs : Region.noSelect ops = true) (hf : Region.free md ops listed i = true) (hr : (Region.ready md ops listed).contains i = true)
    (hQ : ∀ c a w, Q (.panic c) (a.put oi.dst v) w → Q (.panic c) a w) (hy : YieldsIf P ops S oi v a) (hS : S w)
    (h : wpAnyH P md ops Q S fuel (listed.setIfInBounds i true) (a.put (some d) v) w) : wpAnyH P md ops Q S (fuel + 1) listed a w :=
  wpAnyH_take (by rw [hl]; simpa using hi) hs hf hr hQ hy hS (by rw [hd]; exact h)
theorem cons2 {P : Program} {md : Region.Mode} {ops : Array Oper} {Q : Exit → Act → World → Prop} {S : World → Prop} {l : List Oper} (hl : ops = l.toArray) {fuel : Nat} {listed : Array Bool} {a : Act} {w : World} {i : Nat} {o : Oper} (ho : l[i]? = some o)
    (h : ∀ K' : Act → World → Prop, Shut (∀ a w, S w → (S w → wpAnyH P md ops Q S fuel (listed.setIfInBounds i true) a w) → K' a w) → if Region.wanted o (yielded ops a.tmps) = true then Oper.wp P o a w K' Q else K' (a.put o.dst undef) w) :
    AllReadyH P md ops Q S fuel listed a w [i] := AllReadyH.cons (by rw [hl]; simpa using ho) h AllReadyH.nil

/-- Bytes are returned that read as the text s, wherever memory grows to. -/
def Got (w w' : World) (e : Ending) (s : ByteArray) : Prop :=
  ∃ a N cap, e = .returned (.slice a N cap) ∧ (∀ W, Below w'.heap.size w' W → (convert 25 9 (.slice a N cap)).run Tryd.prog W = .ok (.string s) W) ∧ Below w.heap.size w w'
theorem got_of {w w' : World} {e : Ending} {bs : List Int} {s : ByteArray} (h : New w w' e bs) (hs : strOfNums bs = s) : Got w w' e s := by
  obtain ⟨⟨v, rfl, o⟩, b⟩ := h
  obtain ⟨a, cap, rfl, y, -, -⟩ := o.by
  exact ⟨a, bs.length, cap, rfl, fun W hW => str_is (y.below hW) hs, b⟩

set_option maxHeartbeats 4000000 in
theorem walk_long (w : World) (ht : Tab w) (a : Option Addr) (n cap : Nat) (u v : Int) (s : ByteArray) (h : 200 < n) :
    Calls Tryd.prog 4 #[.slice a n cap, .int .u64 u, .int .i64 v, .string s] w fun e w' => e = .returned (.bool true) ∧ Below w.heap.size w w' := by
  have T : Hid (Tab w) := ht
  have h' : (200 : Int) < (n : Int) := by omega
  clear ht
  go_enter Tryd.func4, Tryd.ntmps4
  go_wp2_with (go_at_call 9; refine (awake_any w T.out).mono ?_; rintro e w1 ⟨rfl, b1⟩)
  go_ret
  exact ⟨rfl, b1⟩

set_option maxHeartbeats 4000000 in
theorem walk_text (w : World) (ht : Tab w) (a : Option Addr) (n cap : Nat) (u v : Int) (s : ByteArray) (h : n ≤ 200) (h1 : 300 < s.size) :
    Calls Tryd.prog 4 #[.slice a n cap, .int .u64 u, .int .i64 v, .string s] w fun e w' => e = .returned (.bool true) ∧ Below w.heap.size w w' := by
  have T : Hid (Tab w) := ht
  have h' : ¬ (200 : Int) < (n : Int) := by omega
  have h1' : (300 : Int) < (s.size : Int) := by omega
  clear ht
  go_enter Tryd.func4, Tryd.ntmps4
  go_wp2_with (go_at_call 9; refine (awake_any w T.out).mono ?_; rintro e w1 ⟨rfl, b1⟩)
  go_ret
  exact ⟨rfl, b1⟩

set_option maxHeartbeats 8000000 in
set_option maxRecDepth 100000 in
theorem walk_main (w : World) (ht : Tab w) (a : Option Addr) (n cap : Nat) (zs : List Int) (hz : By w a n cap zs) (u : Nat) (v : Int) (s : ByteArray) (h : n ≤ 200) (h1 : s.size ≤ 300) (hu : u < 18446744073709551616) (v0 : -9223372036854775808 ≤ v) (v1 : v < 9223372036854775808) :
    Calls Tryd.prog 4 #[.slice a n cap, .int .u64 u, .int .i64 v, .string s] w fun e w' => e = .returned (.bool true) ∧ Below w.heap.size w w' := by
  have T : Hid (Tab w) := ht
  have Z : Hid (By w a n cap zs) := hz
  have e1 : ¬ (200 : Int) < (n : Int) := by omega
  have e2 : ¬ (300 : Int) < (s.size : Int) := by omega
  have hzl := hz.len
  clear ht hz
  go_enter Tryd.func4, Tryd.ntmps4
  go_wp2_with fail
  refine (awake_any w T.out).mono ?_
  rintro e w1 ⟨rfl, b1⟩
  have Z1 : Hid (By w1 a n cap zs) := Z.out.below b1
  have B1 : Hid _ := b1
  have T1 : Hid (Tab w1) := T.out.next b1
  clear b1
  go_upto_region 6 with (at_builtin; refine wpList_append_by rfl (.tmp 20) (.tmp 21) rfl w1.heap.size _ [] rfl (own_empty w1) a n cap zs rfl (Z1.out.below (allocB w1 _)) (by simp; omega) (by simp) ?_; intro v2 w2 o2 g2)
  rw [List.nil_append] at o2
  obtain ⟨a2, c2, rfl, y2, -, -⟩ := o2.by
  have B2 := app0 g2
  have yb := Z1.out.below B2
  have T2 := T1.out.next B2
  obtain ⟨sU, hsU⟩ : ∃ x, strOfNums (zs ++ enc u) = x := ⟨_, rfl⟩
  obtain ⟨sI, hsI⟩ : ∃ x, strOfNums (zs ++ enc (zig v)) = x := ⟨_, rfl⟩
  obtain ⟨sS, hsS⟩ : ∃ x, strOfNums (zs ++ enc s.size ++ nums s) = x := ⟨_, rfl⟩
  obtain ⟨sC, hsC⟩ : ∃ x, strOfNums zs = x := ⟨_, rfl⟩
  obtain ⟨t, hst⟩ : ∃ x : Nat, sum zs = x := ⟨_, rfl⟩
  have m : zs.length = n := hzl
  rw [m] at y2 ⊢
  have KU : Hid (∀ W, Below w2.heap.size w2 W → Calls Tryd.prog 17 #[.slice a2 n c2, .int .u64 u] W fun e w' => Got W w' e sU) := fun W hW => (pU_any a2 n c2 u zs W (y2.below hW) (by omega) hu).mono fun e w' hh => got_of hh hsU
  have KI : Hid (∀ W, Below w2.heap.size w2 W → Calls Tryd.prog 19 #[.slice a2 n c2, .int .i64 v] W fun e w' => Got W w' e sI) := fun W hW => (pI_any a2 n c2 v zs W (y2.below hW) (by omega) v0 v1).mono fun e w' hh => got_of hh hsI
  have KS : Hid (∀ W, Below w2.heap.size w2 W → Calls Tryd.prog 21 #[.slice a2 n c2, .string s] W fun e w' => Got W w' e sS) := fun W hW => (pS_any a2 n c2 s zs W (y2.below hW) (by omega) (by omega)).mono fun e w' hh => got_of hh hsS
  have RU : Hid (∀ W, Below w2.heap.size w2 W → Calls Tryd.prog 18 #[.slice a n cap, .int .u64 u] W fun e w' => Got W w' e sU) := fun W hW => (rPutU_any a n cap u zs W (yb.below hW) (by omega) hu).mono fun e w' hh => got_of hh hsU
  have RI : Hid (∀ W, Below w2.heap.size w2 W → Calls Tryd.prog 20 #[.slice a n cap, .int .i64 v] W fun e w' => Got W w' e sI) := fun W hW => (rPutI_any a n cap v zs W (yb.below hW) (by omega) v0 v1).mono fun e w' hh => got_of hh hsI
  have RS : Hid (∀ W, Below w2.heap.size w2 W → Calls Tryd.prog 22 #[.slice a n cap, .string s] W fun e w' => Got W w' e sS) := fun W hW => (rPutS_any a n cap s zs W (yb.below hW) (by omega) (by omega)).mono fun e w' hh => got_of hh hsS
  have KM : Hid (∀ W, Below w2.heap.size w2 W → Calls Tryd.prog 16 #[.slice a n cap] W fun e w' => e = .returned (.int .u32 (t : Nat)) ∧ W = w') := fun W hW => by
    rw [← hst]; exact pSum_any a n cap zs W (yb.below hW) (by omega) (T2.next hW)
  have RM : Hid (∀ W, Below w2.heap.size w2 W → Calls Tryd.prog 23 #[.slice a n cap] W fun e w' => e = .returned (.int .u32 (t : Nat)) ∧ W = w') := fun W hW => by
    rw [← hst]; exact rSum_any a n cap zs W (yb.below hW) (by omega)
  have CB : Hid (∀ W, Below w2.heap.size w2 W → (convert 25 9 (.slice a2 n c2)).run Tryd.prog W = .ok (.string sC) W ∧ (convert 25 9 (.slice a n cap)).run Tryd.prog W = .ok (.string sC) W) := fun W hW => ⟨str_is (y2.below hW) hsC, str_is (yb.below hW) hsC⟩
  have BF : Hid (Below w.heap.size w w2) := nextB B1.out B2
  have D0 : Hid (Below w2.heap.size w2 w2.drew) := (Below.refl _ _).drew
  clear o2 g2 y2 yb B2 T2 hsU hsI hsS hsC hst m Z1 T1 B1 hzl v0 v1 hu
  refine wp_region_held_drew (S := fun W => Below w2.heap.size w2 W) (by kernel_rfl) D0.out (fun hHeld => ?_)
  have DD := D0
  have hHeld : Below w2.heap.size w2 w2.drew := hHeld
  clear D0
  refine take2 rfl (i := 0) (v := .slice a2 n c2) (d := 23) rfl rfl (by kernel_rfl) (by kernel_rfl) (by kernel_rfl) (fun _ _ _ h => h) (Or.inl ⟨by rfl, ?_⟩) (by exact hHeld) ?_
  · intro W hW
    try dsimp only at hW
    go_simp
  try simp only [Act.put, List.setIfInBounds_toArray, List.set_cons_zero, List.set_cons_succ]
  refine take2 rfl (i := 1) (v := .int .u64 (u : Int)) (d := 24) rfl rfl (by kernel_rfl) (by kernel_rfl) (by kernel_rfl) (fun _ _ _ h => h) (Or.inl ⟨by rfl, ?_⟩) (by exact hHeld) ?_
  · intro W hW
    try dsimp only at hW
    go_simp
  try simp only [Act.put, List.setIfInBounds_toArray, List.set_cons_zero, List.set_cons_succ]
  refine take2 rfl (i := 4) (v := .slice a n cap) (d := 27) rfl rfl (by kernel_rfl) (by kernel_rfl) (by kernel_rfl) (fun _ _ _ h => h) (Or.inl ⟨by rfl, ?_⟩) (by exact hHeld) ?_
  · intro W hW
    try dsimp only at hW
    go_simp
  try simp only [Act.put, List.setIfInBounds_toArray, List.set_cons_zero, List.set_cons_succ]
  refine take2 rfl (i := 5) (v := .int .u64 (u : Int)) (d := 28) rfl rfl (by kernel_rfl) (by kernel_rfl) (by kernel_rfl) (fun _ _ _ h => h) (Or.inl ⟨by rfl, ?_⟩) (by exact hHeld) ?_
  · intro W hW
    try dsimp only at hW
    go_simp
  try simp only [Act.put, List.setIfInBounds_toArray, List.set_cons_zero, List.set_cons_succ]
  refine wpAnyH_ready (rs := [2]) (by kernel_rfl) (by simp) ?_
  refine cons2 rfl rfl (fun K hK => ?_)
  go_simp
  refine Calls.mono (KU.out _ DD.out) ?_
  rintro e w3 ⟨a3, n3, c3, rfl, f, bn⟩
  have F3 : Hid _ := f
  have BN : Hid _ := bn
  have D2 : Hid (Below w2.heap.size w2 w3) := nextB DD.out bn
  clear f bn
  go_wp2_with fail
  refine hK.out _ _ ?_ (fun hX => ?_)
  · exact D2.out
  clear hK K hX hHeld
  try simp only [Act.put, List.setIfInBounds_toArray, List.set_cons_zero, List.set_cons_succ]
  refine wpAnyH_strong (S' := fun W => Below w3.heap.size w3 W) (fun W hW => nextB D2.out hW) _ _ _ _ ?_
  have hHeld : Below w3.heap.size w3 w3 := Below.refl _ _
  have DD := D2
  clear D2 BN
  refine take2 rfl (i := 3) (v := .string sU) (d := 26) rfl rfl (by kernel_rfl) (by kernel_rfl) (by kernel_rfl) (fun _ _ _ h => h) (Or.inl ⟨by rfl, ?_⟩) (by exact hHeld) ?_
  · intro W hW
    try dsimp only at hW
    have hc := F3.out W hW
    go_simp
  try simp only [Act.put, List.setIfInBounds_toArray, List.set_cons_zero, List.set_cons_succ]
  refine wpAnyH_ready (rs := [6]) (by kernel_rfl) (by simp) ?_
  refine cons2 rfl rfl (fun K hK => ?_)
  go_simp
  refine Calls.mono (RU.out _ DD.out) ?_
  rintro e w4 ⟨a4, n4, c4, rfl, f, bn⟩
  have F4 : Hid _ := f
  have BN : Hid _ := bn
  have D2 : Hid (Below w2.heap.size w2 w4) := nextB DD.out bn
  clear f bn
  go_wp2_with fail
  refine hK.out _ _ ?_ (fun hX => ?_)
  · exact BN.out
  clear hK K hX hHeld
  try simp only [Act.put, List.setIfInBounds_toArray, List.set_cons_zero, List.set_cons_succ]
  refine wpAnyH_strong (S' := fun W => Below w4.heap.size w4 W) (fun W hW => nextB BN.out hW) _ _ _ _ ?_
  have hHeld : Below w4.heap.size w4 w4 := Below.refl _ _
  have DD := D2
  clear D2 BN
  refine take2 rfl (i := 7) (v := .string sU) (d := 30) rfl rfl (by kernel_rfl) (by kernel_rfl) (by kernel_rfl) (fun _ _ _ h => h) (Or.inl ⟨by rfl, ?_⟩) (by exact hHeld) ?_
  · intro W hW
    try dsimp only at hW
    have hc := F4.out W hW
    go_simp
  try simp only [Act.put, List.setIfInBounds_toArray, List.set_cons_zero, List.set_cons_succ]
  refine take2 rfl (i := 8) (v := .bool true) (d := 31) rfl rfl (by kernel_rfl) (by kernel_rfl) (by kernel_rfl) (fun _ _ _ h => h) (Or.inl ⟨by rfl, ?_⟩) (by exact hHeld) ?_
  · intro W hW
    try dsimp only at hW
    go_simp
  try simp only [Act.put, List.setIfInBounds_toArray, List.set_cons_zero, List.set_cons_succ]
  refine take2 rfl (i := 9) (v := .bool true) (d := 32) rfl rfl (by kernel_rfl) (by kernel_rfl) (by kernel_rfl) (fun _ _ _ h => h) (Or.inl ⟨by rfl, ?_⟩) (by exact hHeld) ?_
  · intro W hW
    try dsimp only at hW
    go_simp
  try simp only [Act.put, List.setIfInBounds_toArray, List.set_cons_zero, List.set_cons_succ]
  refine take2 rfl (i := 10) (v := .slice a2 n c2) (d := 33) rfl rfl (by kernel_rfl) (by kernel_rfl) (by kernel_rfl) (fun _ _ _ h => h) (Or.inl ⟨by rfl, ?_⟩) (by exact hHeld) ?_
  · intro W hW
    try dsimp only at hW
    go_simp
  try simp only [Act.put, List.setIfInBounds_toArray, List.set_cons_zero, List.set_cons_succ]
  refine take2 rfl (i := 11) (v := .int .i64 v) (d := 34) rfl rfl (by kernel_rfl) (by kernel_rfl) (by kernel_rfl) (fun _ _ _ h => h) (Or.inl ⟨by rfl, ?_⟩) (by exact hHeld) ?_
  · intro W hW
    try dsimp only at hW
    go_simp
  try simp only [Act.put, List.setIfInBounds_toArray, List.set_cons_zero, List.set_cons_succ]
  refine take2 rfl (i := 14) (v := .slice a n cap) (d := 37) rfl rfl (by kernel_rfl) (by kernel_rfl) (by kernel_rfl) (fun _ _ _ h => h) (Or.inl ⟨by rfl, ?_⟩) (by exact hHeld) ?_
  · intro W hW
    try dsimp only at hW
    go_simp
  try simp only [Act.put, List.setIfInBounds_toArray, List.set_cons_zero, List.set_cons_succ]
  refine take2 rfl (i := 15) (v := .int .i64 v) (d := 38) rfl rfl (by kernel_rfl) (by kernel_rfl) (by kernel_rfl) (fun _ _ _ h => h) (Or.inl ⟨by rfl, ?_⟩) (by exact hHeld) ?_
  · intro W hW
    try dsimp only at hW
    go_simp
  try simp only [Act.put, List.setIfInBounds_toArray, List.set_cons_zero, List.set_cons_succ]
  refine wpAnyH_ready (rs := [12]) (by kernel_rfl) (by simp) ?_
  refine cons2 rfl rfl (fun K hK => ?_)
  go_simp
  refine Calls.mono (KI.out _ DD.out) ?_
  rintro e w5 ⟨a5, n5, c5, rfl, f, bn⟩
  have F5 : Hid _ := f
  have BN : Hid _ := bn
  have D2 : Hid (Below w2.heap.size w2 w5) := nextB DD.out bn
  clear f bn
  go_wp2_with fail
  refine hK.out _ _ ?_ (fun hX => ?_)
  · exact BN.out
  clear hK K hX hHeld
  try simp only [Act.put, List.setIfInBounds_toArray, List.set_cons_zero, List.set_cons_succ]
  refine wpAnyH_strong (S' := fun W => Below w5.heap.size w5 W) (fun W hW => nextB BN.out hW) _ _ _ _ ?_
  have hHeld : Below w5.heap.size w5 w5 := Below.refl _ _
  have DD := D2
  clear D2 BN
  refine take2 rfl (i := 13) (v := .string sI) (d := 36) rfl rfl (by kernel_rfl) (by kernel_rfl) (by kernel_rfl) (fun _ _ _ h => h) (Or.inl ⟨by rfl, ?_⟩) (by exact hHeld) ?_
  · intro W hW
    try dsimp only at hW
    have hc := F5.out W hW
    go_simp
  try simp only [Act.put, List.setIfInBounds_toArray, List.set_cons_zero, List.set_cons_succ]
  refine wpAnyH_ready (rs := [16]) (by kernel_rfl) (by simp) ?_
  refine cons2 rfl rfl (fun K hK => ?_)
  go_simp
  refine Calls.mono (RI.out _ DD.out) ?_
  rintro e w6 ⟨a6, n6, c6, rfl, f, bn⟩
  have F6 : Hid _ := f
  have BN : Hid _ := bn
  have D2 : Hid (Below w2.heap.size w2 w6) := nextB DD.out bn
  clear f bn
  go_wp2_with fail
  refine hK.out _ _ ?_ (fun hX => ?_)
  · exact BN.out
  clear hK K hX hHeld
  try simp only [Act.put, List.setIfInBounds_toArray, List.set_cons_zero, List.set_cons_succ]
  refine wpAnyH_strong (S' := fun W => Below w6.heap.size w6 W) (fun W hW => nextB BN.out hW) _ _ _ _ ?_
  have hHeld : Below w6.heap.size w6 w6 := Below.refl _ _
  have DD := D2
  clear D2 BN
  refine take2 rfl (i := 17) (v := .string sI) (d := 40) rfl rfl (by kernel_rfl) (by kernel_rfl) (by kernel_rfl) (fun _ _ _ h => h) (Or.inl ⟨by rfl, ?_⟩) (by exact hHeld) ?_
  · intro W hW
    try dsimp only at hW
    have hc := F6.out W hW
    go_simp
  try simp only [Act.put, List.setIfInBounds_toArray, List.set_cons_zero, List.set_cons_succ]
  refine take2 rfl (i := 18) (v := .bool true) (d := 41) rfl rfl (by kernel_rfl) (by kernel_rfl) (by kernel_rfl) (fun _ _ _ h => h) (Or.inl ⟨by rfl, ?_⟩) (by exact hHeld) ?_
  · intro W hW
    try dsimp only at hW
    go_simp
  try simp only [Act.put, List.setIfInBounds_toArray, List.set_cons_zero, List.set_cons_succ]
  refine take2 rfl (i := 19) (v := .bool true) (d := 42) rfl rfl (by kernel_rfl) (by kernel_rfl) (by kernel_rfl) (fun _ _ _ h => h) (Or.inl ⟨by rfl, ?_⟩) (by exact hHeld) ?_
  · intro W hW
    try dsimp only at hW
    go_simp
  try simp only [Act.put, List.setIfInBounds_toArray, List.set_cons_zero, List.set_cons_succ]
  refine take2 rfl (i := 20) (v := .bool true) (d := 43) rfl rfl (by kernel_rfl) (by kernel_rfl) (by kernel_rfl) (fun _ _ _ h => h) (Or.inl ⟨by rfl, ?_⟩) (by exact hHeld) ?_
  · intro W hW
    try dsimp only at hW
    go_simp
  try simp only [Act.put, List.setIfInBounds_toArray, List.set_cons_zero, List.set_cons_succ]
  refine take2 rfl (i := 21) (v := .slice a2 n c2) (d := 44) rfl rfl (by kernel_rfl) (by kernel_rfl) (by kernel_rfl) (fun _ _ _ h => h) (Or.inl ⟨by rfl, ?_⟩) (by exact hHeld) ?_
  · intro W hW
    try dsimp only at hW
    go_simp
  try simp only [Act.put, List.setIfInBounds_toArray, List.set_cons_zero, List.set_cons_succ]
  refine take2 rfl (i := 22) (v := .string s) (d := 45) rfl rfl (by kernel_rfl) (by kernel_rfl) (by kernel_rfl) (fun _ _ _ h => h) (Or.inl ⟨by rfl, ?_⟩) (by exact hHeld) ?_
  · intro W hW
    try dsimp only at hW
    go_simp
  try simp only [Act.put, List.setIfInBounds_toArray, List.set_cons_zero, List.set_cons_succ]
  refine take2 rfl (i := 25) (v := .slice a n cap) (d := 48) rfl rfl (by kernel_rfl) (by kernel_rfl) (by kernel_rfl) (fun _ _ _ h => h) (Or.inl ⟨by rfl, ?_⟩) (by exact hHeld) ?_
  · intro W hW
    try dsimp only at hW
    go_simp
  try simp only [Act.put, List.setIfInBounds_toArray, List.set_cons_zero, List.set_cons_succ]
  refine take2 rfl (i := 26) (v := .string s) (d := 49) rfl rfl (by kernel_rfl) (by kernel_rfl) (by kernel_rfl) (fun _ _ _ h => h) (Or.inl ⟨by rfl, ?_⟩) (by exact hHeld) ?_
  · intro W hW
    try dsimp only at hW
    go_simp
  try simp only [Act.put, List.setIfInBounds_toArray, List.set_cons_zero, List.set_cons_succ]
  refine wpAnyH_ready (rs := [23]) (by kernel_rfl) (by simp) ?_
  refine cons2 rfl rfl (fun K hK => ?_)
  go_simp
  refine Calls.mono (KS.out _ DD.out) ?_
  rintro e w7 ⟨a7, n7, c7, rfl, f, bn⟩
  have F7 : Hid _ := f
  have BN : Hid _ := bn
  have D2 : Hid (Below w2.heap.size w2 w7) := nextB DD.out bn
  clear f bn
  go_wp2_with fail
  refine hK.out _ _ ?_ (fun hX => ?_)
  · exact BN.out
  clear hK K hX hHeld
  try simp only [Act.put, List.setIfInBounds_toArray, List.set_cons_zero, List.set_cons_succ]
  refine wpAnyH_strong (S' := fun W => Below w7.heap.size w7 W) (fun W hW => nextB BN.out hW) _ _ _ _ ?_
  have hHeld : Below w7.heap.size w7 w7 := Below.refl _ _
  have DD := D2
  clear D2 BN
  refine take2 rfl (i := 24) (v := .string sS) (d := 47) rfl rfl (by kernel_rfl) (by kernel_rfl) (by kernel_rfl) (fun _ _ _ h => h) (Or.inl ⟨by rfl, ?_⟩) (by exact hHeld) ?_
  · intro W hW
    try dsimp only at hW
    have hc := F7.out W hW
    go_simp
  try simp only [Act.put, List.setIfInBounds_toArray, List.set_cons_zero, List.set_cons_succ]
  refine wpAnyH_ready (rs := [27]) (by kernel_rfl) (by simp) ?_
  refine cons2 rfl rfl (fun K hK => ?_)
  go_simp
  refine Calls.mono (RS.out _ DD.out) ?_
  rintro e w8 ⟨a8, n8, c8, rfl, f, bn⟩
  have F8 : Hid _ := f
  have BN : Hid _ := bn
  have D2 : Hid (Below w2.heap.size w2 w8) := nextB DD.out bn
  clear f bn
  go_wp2_with fail
  refine hK.out _ _ ?_ (fun hX => ?_)
  · exact BN.out
  clear hK K hX hHeld
  try simp only [Act.put, List.setIfInBounds_toArray, List.set_cons_zero, List.set_cons_succ]
  refine wpAnyH_strong (S' := fun W => Below w8.heap.size w8 W) (fun W hW => nextB BN.out hW) _ _ _ _ ?_
  have hHeld : Below w8.heap.size w8 w8 := Below.refl _ _
  have DD := D2
  clear D2 BN
  refine take2 rfl (i := 28) (v := .string sS) (d := 51) rfl rfl (by kernel_rfl) (by kernel_rfl) (by kernel_rfl) (fun _ _ _ h => h) (Or.inl ⟨by rfl, ?_⟩) (by exact hHeld) ?_
  · intro W hW
    try dsimp only at hW
    have hc := F8.out W hW
    go_simp
  try simp only [Act.put, List.setIfInBounds_toArray, List.set_cons_zero, List.set_cons_succ]
  refine take2 rfl (i := 29) (v := .bool true) (d := 52) rfl rfl (by kernel_rfl) (by kernel_rfl) (by kernel_rfl) (fun _ _ _ h => h) (Or.inl ⟨by rfl, ?_⟩) (by exact hHeld) ?_
  · intro W hW
    try dsimp only at hW
    go_simp
  try simp only [Act.put, List.setIfInBounds_toArray, List.set_cons_zero, List.set_cons_succ]
  refine take2 rfl (i := 30) (v := .bool true) (d := 53) rfl rfl (by kernel_rfl) (by kernel_rfl) (by kernel_rfl) (fun _ _ _ h => h) (Or.inl ⟨by rfl, ?_⟩) (by exact hHeld) ?_
  · intro W hW
    try dsimp only at hW
    go_simp
  try simp only [Act.put, List.setIfInBounds_toArray, List.set_cons_zero, List.set_cons_succ]
  refine take2 rfl (i := 31) (v := .bool true) (d := 54) rfl rfl (by kernel_rfl) (by kernel_rfl) (by kernel_rfl) (fun _ _ _ h => h) (Or.inl ⟨by rfl, ?_⟩) (by exact hHeld) ?_
  · intro W hW
    try dsimp only at hW
    go_simp
  try simp only [Act.put, List.setIfInBounds_toArray, List.set_cons_zero, List.set_cons_succ]
  refine take2 rfl (i := 32) (v := .slice a n cap) (d := 55) rfl rfl (by kernel_rfl) (by kernel_rfl) (by kernel_rfl) (fun _ _ _ h => h) (Or.inl ⟨by rfl, ?_⟩) (by exact hHeld) ?_
  · intro W hW
    try dsimp only at hW
    go_simp
  try simp only [Act.put, List.setIfInBounds_toArray, List.set_cons_zero, List.set_cons_succ]
  refine take2 rfl (i := 34) (v := .slice a n cap) (d := 57) rfl rfl (by kernel_rfl) (by kernel_rfl) (by kernel_rfl) (fun _ _ _ h => h) (Or.inl ⟨by rfl, ?_⟩) (by exact hHeld) ?_
  · intro W hW
    try dsimp only at hW
    go_simp
  try simp only [Act.put, List.setIfInBounds_toArray, List.set_cons_zero, List.set_cons_succ]
  refine wpAnyH_ready (rs := [33]) (by kernel_rfl) (by simp) ?_
  refine cons2 rfl rfl (fun K hK => ?_)
  go_simp
  refine Calls.mono (KM.out _ DD.out) ?_
  rintro e w8' ⟨rfl, rfl⟩
  go_wp2_with fail
  refine hK.out _ _ ?_ (fun hX => ?_)
  · exact hHeld
  clear hK K hX
  try simp only [Act.put, List.setIfInBounds_toArray, List.set_cons_zero, List.set_cons_succ]
  refine wpAnyH_ready (rs := [35]) (by kernel_rfl) (by simp) ?_
  refine cons2 rfl rfl (fun K hK => ?_)
  go_simp
  refine Calls.mono (RM.out _ DD.out) ?_
  rintro e w8' ⟨rfl, rfl⟩
  go_wp2_with fail
  refine hK.out _ _ ?_ (fun hX => ?_)
  · exact hHeld
  clear hK K hX
  try simp only [Act.put, List.setIfInBounds_toArray, List.set_cons_zero, List.set_cons_succ]
  refine take2 rfl (i := 36) (v := .bool true) (d := 59) rfl rfl (by kernel_rfl) (by kernel_rfl) (by kernel_rfl) (fun _ _ _ h => h) (Or.inl ⟨by rfl, ?_⟩) (by exact hHeld) ?_
  · intro W hW
    try dsimp only at hW
    go_simp
  try simp only [Act.put, List.setIfInBounds_toArray, List.set_cons_zero, List.set_cons_succ]
  refine take2 rfl (i := 37) (v := .bool true) (d := 60) rfl rfl (by kernel_rfl) (by kernel_rfl) (by kernel_rfl) (fun _ _ _ h => h) (Or.inl ⟨by rfl, ?_⟩) (by exact hHeld) ?_
  · intro W hW
    try dsimp only at hW
    go_simp
  try simp only [Act.put, List.setIfInBounds_toArray, List.set_cons_zero, List.set_cons_succ]
  refine take2 rfl (i := 38) (v := .bool true) (d := 61) rfl rfl (by kernel_rfl) (by kernel_rfl) (by kernel_rfl) (fun _ _ _ h => h) (Or.inl ⟨by rfl, ?_⟩) (by exact hHeld) ?_
  · intro W hW
    try dsimp only at hW
    go_simp
  try simp only [Act.put, List.setIfInBounds_toArray, List.set_cons_zero, List.set_cons_succ]
  refine take2 rfl (i := 39) (v := .slice a2 n c2) (d := 62) rfl rfl (by kernel_rfl) (by kernel_rfl) (by kernel_rfl) (fun _ _ _ h => h) (Or.inl ⟨by rfl, ?_⟩) (by exact hHeld) ?_
  · intro W hW
    try dsimp only at hW
    go_simp
  try simp only [Act.put, List.setIfInBounds_toArray, List.set_cons_zero, List.set_cons_succ]
  refine take2 rfl (i := 41) (v := .slice a n cap) (d := 64) rfl rfl (by kernel_rfl) (by kernel_rfl) (by kernel_rfl) (fun _ _ _ h => h) (Or.inl ⟨by rfl, ?_⟩) (by exact hHeld) ?_
  · intro W hW
    try dsimp only at hW
    go_simp
  try simp only [Act.put, List.setIfInBounds_toArray, List.set_cons_zero, List.set_cons_succ]
  refine take2 rfl (i := 40) (v := .string sC) (d := 63) rfl rfl (by kernel_rfl) (by kernel_rfl) (by kernel_rfl) (fun _ _ _ h => h) (Or.inl ⟨by rfl, ?_⟩) (by exact hHeld) ?_
  · intro W hW
    try dsimp only at hW
    have hc := (CB.out W (nextB DD.out hW)).1
    go_simp
  try simp only [Act.put, List.setIfInBounds_toArray, List.set_cons_zero, List.set_cons_succ]
  refine take2 rfl (i := 42) (v := .string sC) (d := 65) rfl rfl (by kernel_rfl) (by kernel_rfl) (by kernel_rfl) (fun _ _ _ h => h) (Or.inl ⟨by rfl, ?_⟩) (by exact hHeld) ?_
  · intro W hW
    try dsimp only at hW
    have hc := (CB.out W (nextB DD.out hW)).2
    go_simp
  try simp only [Act.put, List.setIfInBounds_toArray, List.set_cons_zero, List.set_cons_succ]
  refine take2 rfl (i := 43) (v := .bool true) (d := 66) rfl rfl (by kernel_rfl) (by kernel_rfl) (by kernel_rfl) (fun _ _ _ h => h) (Or.inl ⟨by rfl, ?_⟩) (by exact hHeld) ?_
  · intro W hW
    try dsimp only at hW
    go_simp
  try simp only [Act.put, List.setIfInBounds_toArray, List.set_cons_zero, List.set_cons_succ]
  refine take2 rfl (i := 44) (v := .bool true) (d := 67) rfl rfl (by kernel_rfl) (by kernel_rfl) (by kernel_rfl) (fun _ _ _ h => h) (Or.inl ⟨by rfl, ?_⟩) (by exact hHeld) ?_
  · intro W hW
    try dsimp only at hW
    go_simp
  try simp only [Act.put, List.setIfInBounds_toArray, List.set_cons_zero, List.set_cons_succ]
  refine take2 rfl (i := 45) (v := .bool true) (d := 8) rfl rfl (by kernel_rfl) (by kernel_rfl) (by kernel_rfl) (fun _ _ _ h => h) (Or.inl ⟨by rfl, ?_⟩) (by exact hHeld) ?_
  · intro W hW
    try dsimp only at hW
    go_simp
  try simp only [Act.put, List.setIfInBounds_toArray, List.set_cons_zero, List.set_cons_succ]
  refine wpAnyH_done (by kernel_rfl) ?_ _
  go_wp2
  go_ret
  exact ⟨rfl, nextB BF.out DD.out⟩

theorem walk (w : World) (ht : Tab w) (a : Option Addr) (n cap : Nat) (zs : List Int) (hz : Nm .u8 w a n cap zs) (u : Int) (wu : (Lit.int .u64 u).wf = true) (v : Int) (wv : (Lit.int .i64 v).wf = true) (s : ByteArray) (ws : s.size ≤ maxLen) :
    Calls Tryd.prog 4 #[.slice a n cap, .int .u64 u, .int .i64 v, .string s] w fun e w' => e = .returned (.bool true) ∧ Below w.heap.size w w' := by
  have bu := bounds_u64 wu
  have bv := bounds_i64 wv
  by_cases h : 200 < n
  · exact walk_long w ht a n cap u v s h
  · by_cases h1 : 300 < s.size
    · exact walk_text w ht a n cap u v s (by omega) h1
    · obtain ⟨u, rfl⟩ := Int.eq_ofNat_of_zero_le bu.1
      exact walk_main w ht a n cap zs hz.by u v s (by omega) (by omega) (by omega) (by omega) (by omega)


theorem contract (H : Type) (enc : TypeId × Value → H) (W : World) (base : Nat) (args : Array Value) (ds gs : List (DataW H)) (before : List MemPlace)
    (hval : ∀ (j : Nat) t v, Tryd.f4.params[j]? = some t → args[j]? = some v → Value.okWide Tryd.prog W .any base t v)
    (hW : DataW.Whole enc Tryd.prog Tryd.f4.params.toList Rows.packWritesSpec.vars false W args.toList ds gs before) (hL : laidMetH Tryd.prog Rows.packWritesRow.laid W) :
    Calls Tryd.prog 4 args W fun e W' => ∃ v, e = .returned v ∧ Rows.packWritesSpec.post enc Tryd.prog Tryd.f4 false true false false W args v W' := by
  have hW' := hW
  obtain ⟨p, q, hA0, hV, rfl, hfz, hnd⟩ := hW
  have hA : DataW.TrodAll enc Tryd.prog W 0 (fun _ => true) true Tryd.f4.params.toList args.toList ds p := hA0
  have hT : Tab W := tab_of hL
  rw [Tryd.params4] at hA hval
  obtain ⟨v0, vs0, d0, ds0, p0, q0, hargs, rfl, rfl, h0, r0⟩ := trodAll_cons hA
  obtain ⟨v1, vs1, d1, ds1, p1, q1, rfl, rfl, rfl, h1, r1⟩ := trodAll_cons r0
  obtain ⟨v2, vs2, d2, ds2, p2, q2, rfl, rfl, rfl, h2, r2⟩ := trodAll_cons r1
  obtain ⟨v3, vs3, d3, ds3, p3, q3, rfl, rfl, rfl, h3, r3⟩ := trodAll_cons r2
  obtain ⟨rfl, rfl, rfl⟩ := trodAll_nil r3
  obtain rfl : args = #[v0, v1, v2, v3] := by cases args; simp_all
  obtain ⟨rfl, rfl⟩ := trodVars_none hV
  obtain ⟨a0, len0, cap0, rfl⟩ := okWide_slice Tryd.underlying25 (hval 0 25 v0 rfl rfl)
  have k0 := h0
  have lt0 : ∀ x ∈ p0, x.block < W.heap.size := by obtain ⟨m, hm⟩ := k0; exact DataW.trod_lt m _ _ _ hm
  obtain ⟨z0, w0⟩ : ∃ zs, Nm .u8 W a0 len0 cap0 zs := by
    obtain ⟨fuel, hf⟩ := h0
    exact nm_of Tryd.underlying25 Tryd.underlying5 (by kernel_rfl) hf
  obtain ⟨a1, rfl, rfl, rfl, w1⟩ := open_int Tryd.underlying26 (hval 1 26 v1 rfl rfl) h1
  obtain ⟨a2, rfl, rfl, rfl, w2⟩ := open_int Tryd.underlying2 (hval 2 2 v2 rfl rfl) h2
  obtain ⟨a3, rfl, rfl, rfl, w3⟩ := open_string Tryd.underlying9 (hval 3 9 v3 rfl rfl) h3
  clear hA0
  refine (walk W hT a0 len0 cap0 z0 w0 a1 w1 a2 w2 a3 w3).mono fun e W' ⟨he, bel⟩ => ?_
  subst he
  exact ⟨_, rfl, _, _, _, [], _, [], hW', trodAll_mk1 (shut_bool Tryd.underlying4 _), (trodAll_cons_mk (Below.trod laidOut (by kernel_rfl) (of_decide_eq_true (by kernel_rfl)) k0 bel lt0) (trodAll_cons_mk (shut_int Tryd.underlying26 w1) (trodAll_cons_mk (shut_int Tryd.underlying2 w2) (trodAll_cons_mk (shut_string Tryd.underlying9 w3) trodAll_mk0)))), rfl, bel.frame _, fun h => by cases h⟩

/-- A world for the witness: the table laid. -/
noncomputable def laidWorld (os : Os) : World :=
  { World.holding Tryd.prog os ⟨#[], #[], []⟩ with heap := (World.holding Tryd.prog os ⟨#[], #[], []⟩).heap.modify 0 fun
      | .cells _ t frozen => .cells (tabL.map (Value.int .u32)).toArray t frozen
      | o => o }
theorem laid_met (os : Os) : laidMet Tryd.prog Rows.packWritesRow.laid ((laidWorld os).forCall (fun _ _ => 0) ⟨#[], #[.slice none 0 0, .int .u64 0, .int .i64 0, .string ByteArray.empty], []⟩).memory :=
  laidMet_of_run' 8 (by kernel_rfl) (by kernel_rfl)
theorem reads (os : Os) {H : Type} (enc : TypeId × Value → H) : ∃ places, DataW.whole enc Tryd.prog ((laidWorld os).forCall (fun _ _ => 0) ⟨#[], #[.slice none 0 0, .int .u64 0, .int .i64 0, .string ByteArray.empty], []⟩).memory Tryd.f4.params.toList Rows.packWritesSpec.vars false (#[.slice none 0 0, .int .u64 0, .int .i64 0, .string ByteArray.empty] : Array Value).toList 8 = some ([.nil, .lit (.int .u64 0), .lit (.int .i64 0), .lit (.string [])], [], places) :=
  ⟨[], by kernel_rfl⟩

set_option maxRecDepth 100000 in
theorem lifted (os : Os) (started : os.Started) (H : Type) (enc : TypeId × Value → H) (F : Stop.Interp) :
    ReturnsInHanded {} Tryd.checked os 4 .any ((OpenSpec.ofChange Rows.packWritesSpec).preRow enc Tryd.prog Tryd.f4 Rows.packWritesRow.domain false Rows.packWritesRow.laid) (((OpenSpec.ofChange Rows.packWritesSpec).at F).post enc Tryd.prog Tryd.f4 false true false false) := by
  obtain ⟨places, hx⟩ := reads os enc
  refine returnsInHanded_of_row (C := Tryd.checked) (s := OpenSpec.ofChange Rows.packWritesSpec) own started (by kernel_rfl) Tryd.func4
    (witness_row_at (enc := enc) (C := Tryd.checked) false (laidWorld os) #[.slice none 0 0, .int .u64 0, .int .i64 0, .string ByteArray.empty] rfl (by kernel_rfl) (by kernel_rfl) (by kernel_rfl)
      (OpenSpec.preRow_of_cond 8 hx (by kernel_rfl) (fun k hk => by cases hk) (by kernel_rfl) (laid_met os))) ?_
  intro W base args ds gs before hval hW _ _ _ hL _ _
  exact contract H enc W base args ds gs before hval hW hL

theorem said : Rows.PackWritesSaid :=
  OpenClaim.holds_of_cond 4 Tryd.f4 rfl rfl rfl rfl rfl rfl rfl ⟨rfl, rfl, rfl, rfl, rfl⟩ rfl rfl rfl rfl rfl (by kernel_rfl) Tryd.func4 (by kernel_rfl)
    (of_decide_eq_true (by kernel_rfl)) (by unfold Func.isWrapper; first | (rw [if_pos (by decide +kernel)]; kernel_rfl) | (rw [if_neg (by decide +kernel)]; exact ⟨rfl, rfl⟩))
    (fun os started H enc _ F => by rw [OpenClaim.pre_eq_preRow]; exact lifted os started H enc F)

theorem plain (f : FuncId) (fn : Func) (hf : Tryd.pinned.checked.prog.funcNamed "publican/publicanlaw3.PackWrites" = some f) (hfn : Tryd.pinned.checked.prog.funcs[f]? = some fn) :
    false = Tryd.pinned.checked.prog.looks [] ∧ ∀ (j : Nat) t, fn.params[j]? = some t → Tryd.pinned.checked.prog.wantsStandIn t = false := by
  obtain rfl : f = 4 := Option.some.inj ((show Tryd.prog.funcNamed "publican/publicanlaw3.PackWrites" = some 4 by kernel_rfl).symm.trans hf) |>.symm
  obtain rfl : fn = Tryd.f4 := (Option.some.inj (Tryd.func4.symm.trans hfn)).symm
  refine ⟨by kernel_rfl, fun j t ht => ?_⟩
  rw [Tryd.params4] at ht
  have hm : t = 25 ∨ t = 26 ∨ t = 2 ∨ t = 9 := by have := Array.mem_of_getElem? ht; simp at this; omega
  rcases hm with rfl | rfl | rfl | rfl
  · exact (show Tryd.prog.wantsStandIn 25 = false by kernel_rfl)
  · exact (show Tryd.prog.wantsStandIn 26 = false by kernel_rfl)
  · exact (show Tryd.prog.wantsStandIn 2 = false by kernel_rfl)
  · exact (show Tryd.prog.wantsStandIn 9 = false by kernel_rfl)

theorem card : Rows.PackWritesCardSaid :=
  Claim7.holds_tied_plain_at .later [] _ _ _ _ said (fun _ h => by cases h) (by kernel_rfl) (fun _ h => by cases h) packWrites_row_tie rfl ⟨rfl, rfl⟩ (by kernel_rfl) rfl plain (by kernel_rfl)

end Go.Proofs.YtgjimoihbbogdaaDoor.packWrites
namespace Go.Proofs.YtgjimoihbbogdaaDoor

theorem PackWrites_holds : Rows.PackWritesCardSaid := packWrites.card

end Go.Proofs.YtgjimoihbbogdaaDoor
