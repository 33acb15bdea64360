/- slices.Clone of bytes; the walk over package frame's decode. -/
import Derived.Test.YtblmfkdcahhhbaaDoorG4
import Derived.Test.YtblmfkdcahhhbaaDoorSm
import Derived.Deep.RegionHeld3
import Derived.Deep.DeepCutAuto
namespace Go.Proofs.YtblmfkdcahhhbaaDoor
open Go.RowKit
set_option linter.unusedVariables false
set_option linter.unusedSimpArgs false

theorem own0 (w : World) : Own (w.alloc (.cells #[] 5)) w.heap.size (.slice (some ⟨w.heap.size, 0, none⟩) 0 0) [] :=
  ⟨⟨rfl, .inr ⟨w.heap.size, 0, #[], rfl, Nat.le_refl _, heap_alloc_last w _, Nat.le_refl _, Nat.zero_le _, rfl, rfl⟩⟩, Bys.nil⟩
theorem eq_nil (w : World) (a : Option Addr) (l c : Nat) : (binOp .eql 32 (.slice a l c) (.slice none 0 0)).run Tryd.prog w = .ok (.bool a.isNone) w := by
  have h : ∀ d : Nat, (Op.equalIn (d + 1) 32 (.slice a l c) (.slice none 0 0)).run Tryd.prog w = .ok a.isNone w := fun d => by
    cases a <;> simp [Op.equalIn, run_underlying Tryd.underlying32]
  simp only [binOp]
  simp [Op.equal, Op.maxDepth, h 9999]
set_option maxHeartbeats 1000000 in
theorem cloneB_any (x : Addr) (n cap : Nat) (bs : List Int) (w : World) (h : By w (some x) n cap bs) (hn : n ≤ 100000) :
    Calls Tryd.prog 66 #[.slice (some x) n cap] w fun e w' => (∃ v, e = .returned v ∧ Own w' w.heap.size v bs) ∧ Below w.heap.size w w' := by
  have H : Hid _ := h
  clear h
  have E : (binOp .eql 32 (.slice (some x) n cap) (.slice none 0 0)).run Tryd.prog w = .ok (.bool false) w := eq_nil w (some x) n cap
  go_enter Tryd.func66, Tryd.ntmps66
  go_wp2_with (at_builtin; refine wpList_append_by rfl (.tmp 5) (.tmp 6) rfl w.heap.size _ [] rfl (own0 w) (some x) n cap bs rfl (H.out.below (allocB w _)) (by simp; omega) (by simp) ?_; intro v2 w2 o2 g2)
  go_ret
  rw [List.nil_append] at o2
  exact ⟨⟨v2, rfl, o2⟩, (allocB w _).grown g2 (by simp) (fun k hk => ((own0 w).row.lt k hk).1)⟩

/-- What is held of the world may be said more strongly on the way. -/
theorem wpAnyH_strong {P : Program} {md : Region.Mode} {ops : Array Oper} {Q : Exit → Act → World → Prop} {S S' : World → Prop} (h : ∀ w, S' w → S w) : ∀ (fuel : Nat) (listed : Array Bool) (a : Act) (w : World), wpAnyH P md ops Q S' fuel listed a w → wpAnyH P md ops Q S fuel listed a w
  | 0, _, _, _, k => k
  | fuel + 1, _, _, _, k => ⟨k.1, fun i hi => wpOp_mono (fun a' w' h' => ⟨h _ h'.1, wpAnyH_strong h fuel _ a' w' h'.2⟩) (k.2 i hi)⟩
theorem take2 {P : Program} {md : Region.Mode} {ops : Array Oper} {Q : Exit → Act → World → Prop} {S : World → Prop} {l : List Oper} (hl : ops = l.toArray) {i : Nat} {oi : Oper} {v : Value} {d : Tmp} {fuel : Nat} {listed : Array Bool} {a : Act} {w : World} (hi : l[i]? = some oi) (hd : oi.dst = some d)
    (hs : Region.noSelect ops = true) (hf : Region.free md ops listed i = true) (hr : (Region.ready md ops listed).contains i = true)
    (hQ : ∀ c a w, Q (.panic c) (a.put oi.dst v) w → Q (.panic c) a w) (hy : YieldsIf P ops S oi v a) (hS : S w)
    (h : wpAnyH P md ops Q S fuel (listed.setIfInBounds i true) (a.put (some d) v) w) : wpAnyH P md ops Q S (fuel + 1) listed a w :=
  wpAnyH_take (by rw [hl]; simpa using hi) hs hf hr hQ hy hS (by rw [hd]; exact h)
theorem cons2 {P : Program} {md : Region.Mode} {ops : Array Oper} {Q : Exit → Act → World → Prop} {S : World → Prop} {l : List Oper} (hl : ops = l.toArray) {fuel : Nat} {listed : Array Bool} {a : Act} {w : World} {i : Nat} {o : Oper} (ho : l[i]? = some o)
    (h : ∀ K' : Act → World → Prop, Shut (∀ a w, S w → (S w → wpAnyH P md ops Q S fuel (listed.setIfInBounds i true) a w) → K' a w) → if Region.wanted o (yielded ops a.tmps) = true then Oper.wp P o a w K' Q else K' (a.put o.dst undef) w) :
    AllReadyH P md ops Q S fuel listed a w [i] := AllReadyH.cons (by rw [hl]; simpa using ho) h AllReadyH.nil

/-- Sectors in memory, each in a slice of its own. -/
structure Sl (w : World) (b n cap : Nat) (f : Nat → List Int) : Prop where
  fits : n ≤ cap
  max : cap ≤ maxLen
  at_ : ∀ j, j < n → ∃ g, w.cell? ⟨b, j, none⟩ = some (.slice (some ⟨g, 0, none⟩) 64 64) ∧ By w (some ⟨g, 0, none⟩) 64 64 (f j)
theorem Sl.below {w w' : World} {b n cap : Nat} {f : Nat → List Int} (h : Sl w b n cap f) (hb : Below w.heap.size w w') : Sl w' b n cap f :=
  ⟨h.fits, h.max, fun j hj => by
    obtain ⟨g, h1, h2⟩ := h.at_ j hj
    exact ⟨g, (hb.cell (p := ⟨b, j, none⟩) (World.block_lt_of_cell? _ _ h1)).trans h1, h2.below hb⟩⟩

def dOk (sec : Nat → List Int) (i : Nat) : Bool := ok67 sec i (fsize (hN (sec i)) - 1) && decide (sum ((sec i).take 16 ++ payB sec i) = hSum (sec i))
/-- What decode answers. -/
structure DecP (w : World) (sec : Nat → List Int) (i : Nat) (e : Ending) (w' : World) : Prop where
  no : dOk sec i = false → e = .returned (.tuple #[.agg #[.int .u8 0, .int .u64 0, .int .u32 0, .slice none 0 0], .bool false])
  yes : dOk sec i = true → ∃ g c, e = .returned (.tuple #[.agg #[.int .u8 ((sec i).getD 1 0), .int .u64 (hLife (sec i) : Nat), .int .u32 (hNum (sec i) : Nat), .slice (some ⟨g, 0, none⟩) (hN (sec i)) c], .bool true]) ∧ By w' (some ⟨g, 0, none⟩) (hN (sec i)) c (payB sec i) ∧ w.heap.size ≤ g
  b : Below w.heap.size w w'
theorem ok67_all {sec : Nat → List Int} {i : Nat} : ∀ k, ok67 sec i k = true ↔ ∀ j, j < k → (sec (i + (j + 1))).getD 0 0 = 67
  | 0 => by simp [ok67]
  | k + 1 => by
    rw [ok67, Bool.and_eq_true, ok67_all k, beq_iff_eq]
    constructor
    · intro h j hj
      rcases Nat.lt_or_ge j k with q | q
      · exact h.1 j q
      · obtain rfl : j = k := by omega
        exact h.2
    · intro h
      exact ⟨fun j hj => h j (by omega), h k (by omega)⟩
theorem dOk_bad {sec : Nat → List Int} {i k : Nat} (hk : k < fsize (hN (sec i)) - 1) (h : (sec (i + (k + 1))).getD 0 0 ≠ 67) : dOk sec i = false := by
  unfold dOk
  rw [Bool.and_eq_false_iff]
  left
  rw [← Bool.not_eq_true]
  exact fun e => h ((ok67_all _).1 e k hk)

def zeroC : Array Value := #[.int .u8 0, .int .u64 0, .int .u32 0, .slice none 0 0]
/-- decode under way: so many sectors behind the head are read. -/
structure DecI (w wr : World) (sec : Nat → List Int) (i : Nat) (v : Value) (k : Nat) : Prop where
  own : Own wr (w.heap.size + 1) v (cat sec i k)
  ok : ok67 sec i k = true
  bel : Below w.heap.size w wr
  box : wr.heap[w.heap.size]? = some (.cells #[.int .u8 0, .int .u64 0, .int .u32 0, .slice none 0 0] 75)
theorem box_cells {wr : World} {B : Nat} {t : TypeId} {a0 a1 a2 a3 : Value} (h : wr.heap[B]? = some (.cells #[a0, a1, a2, a3] t)) : wr.cell? ⟨B, 0, none⟩ = some a0 ∧ wr.cell? ⟨B, 1, none⟩ = some a1 ∧ wr.cell? ⟨B, 2, none⟩ = some a2 ∧ wr.cell? ⟨B, 3, none⟩ = some a3 ∧ ∀ o, wr.frozen? ⟨B, o, none⟩ = false :=
  ⟨by rw [cell_of_row _ _ _ _ _ _ h]; rfl, by rw [cell_of_row _ _ _ _ _ _ h]; rfl, by rw [cell_of_row _ _ _ _ _ _ h]; rfl, by rw [cell_of_row _ _ _ _ _ _ h]; rfl, fun o => frozen_of_row _ _ _ _ _ h⟩

theorem set_box4 {w : World} {B : Nat} {a0 a1 a2 a3 v0 v1 v2 v3 : Value} (h0 : w.cell? ⟨B, 0, none⟩ = some a0) (h1 : w.cell? ⟨B, 1, none⟩ = some a1) (h2 : w.cell? ⟨B, 2, none⟩ = some a2) (h3 : w.cell? ⟨B, 3, none⟩ = some a3) (hf : ∀ o, w.frozen? ⟨B, o, none⟩ = false) :
    ((((w.setCell ⟨B, 0, none⟩ v0).setCell ⟨B, 1, none⟩ v1).setCell ⟨B, 2, none⟩ v2).setCell ⟨B, 3, none⟩ v3).cell? ⟨B, 0, none⟩ = some v0 ∧
    ((((w.setCell ⟨B, 0, none⟩ v0).setCell ⟨B, 1, none⟩ v1).setCell ⟨B, 2, none⟩ v2).setCell ⟨B, 3, none⟩ v3).cell? ⟨B, 1, none⟩ = some v1 ∧
    ((((w.setCell ⟨B, 0, none⟩ v0).setCell ⟨B, 1, none⟩ v1).setCell ⟨B, 2, none⟩ v2).setCell ⟨B, 3, none⟩ v3).cell? ⟨B, 2, none⟩ = some v2 ∧
    ((((w.setCell ⟨B, 0, none⟩ v0).setCell ⟨B, 1, none⟩ v1).setCell ⟨B, 2, none⟩ v2).setCell ⟨B, 3, none⟩ v3).cell? ⟨B, 3, none⟩ = some v3 ∧
    ∀ o, ((((w.setCell ⟨B, 0, none⟩ v0).setCell ⟨B, 1, none⟩ v1).setCell ⟨B, 2, none⟩ v2).setCell ⟨B, 3, none⟩ v3).frozen? ⟨B, o, none⟩ = false := by
  refine ⟨?_, ?_, ?_, ?_, fun o => by simpa using hf o⟩
  · rw [cell_set_ne _ (by decide), cell_set_ne _ (by decide), cell_set_ne _ (by decide)]; exact World.cell?_setCell_same _ _ _ h0
  · rw [cell_set_ne _ (by decide), cell_set_ne _ (by decide)]; exact World.cell?_setCell_same _ _ _ (by rw [cell_set_ne _ (by decide)]; exact h1)
  · rw [cell_set_ne _ (by decide)]; exact World.cell?_setCell_same _ _ _ (by rw [cell_set_ne _ (by decide), cell_set_ne _ (by decide)]; exact h2)
  · exact World.cell?_setCell_same _ _ _ (by rw [cell_set_ne _ (by decide), cell_set_ne _ (by decide), cell_set_ne _ (by decide)]; exact h3)

set_option maxRecDepth 100000 in
set_option maxHeartbeats 4000000 in
theorem decode_any (b n cap : Nat) (sec : Nat → List Int) (i : Nat) (w : World) (T : Tab w) (h : Sl w b n cap (fun j => sec (i + j))) (hl : ∀ j, (sec j).length = 64) (hy : ∀ j, Bys (sec j)) (hn : n = fsize (hN (sec i))) (hm : hN (sec i) ≤ 1000) :
    Calls Tryd.prog 59 #[.slice (some ⟨b, 0, none⟩) n cap] w fun e w' => DecP w sec i e w' := by
  have n1 : 1 ≤ n := by rw [hn]; exact fsize_pos _
  have n17 : n ≤ 17 := by rw [hn]; exact fsize_le hm
  have hf := h.fits
  have hmx := h.max
  have cap' : (cap : Int) ≤ 9223372036854775807 := by unfold maxLen at hmx; omega
  obtain ⟨g0, c0, y0⟩ := h.at_ 0 (by omega)
  rw [Nat.add_zero] at y0
  have H : Hid _ := h
  have Y0 : Hid _ := y0
  have TT : Hid (Tab w) := T
  have HN : Hid (n = fsize (hN (sec i))) := hn
  have N1 : (1 : Int) ≤ (n : Int) := by omega
  have NC : (n : Int) ≤ (cap : Int) := by omega
  have N17 : (n : Int) ≤ 17 := by omega
  have bl : b < w.heap.size := World.block_lt_of_cell? _ _ c0
  clear h y0 T hn hmx hf
  have A1 : Hid (Below w.heap.size w (w.alloc (.cells #[.int .u8 0, .int .u64 0, .int .u32 0, .slice none 0 0] 75))) := allocB w _
  have e44 : Hid (seg (sec i) 20 44 = cat sec i 0) := by
    show _ = _
    unfold seg cat; rw [List.take_of_length_le]; simp [hl]
  have HL : Hid _ := hl
  have HY : Hid _ := hy
  have HM : Hid _ := hm
  clear hl hy hm
  have cc : cap = 1 ∨ 2 ≤ cap := by omega
  go_enter Tryd.func59, Tryd.ntmps59
  go_wp2_with fail
  refine Calls.mono (cloneB_any ⟨g0, 20, none⟩ 44 44 (cat sec i 0) _ (by have := (Y0.out.below A1.out).seg 20 44 (by decide); rw [e44.out] at this; simpa using this) (by decide)) ?_
  rintro e w1 ⟨⟨v1, rfl, o1⟩, b1⟩
  have I1 : Hid (DecI w w1 sec i v1 0) := ⟨by have e : (w.alloc (.cells #[.int .u8 0, .int .u64 0, .int .u32 0, .slice none 0 0] 75)).heap.size = w.heap.size + 1 := by simp
                                              rw [← e]; exact o1, rfl, nextB A1.out b1, by rw [b1.block _ (by simp)]; exact heap_alloc_last w _⟩
  clear o1 b1 e44 A1
  rcases cc with rfl | cc
  · have hz : ¬ (0 : Int) < ((n - 1 : Nat) : Int) := by omega
    go_wp2_with fail
    refine wp_loop_rounds 1 ?_
    rw [rounds_succ]
    go_wp2_with fail
    obtain ⟨k, hk⟩ : ∃ k, k = n - 1 := ⟨_, rfl⟩
    have T : DecI w w1 sec i v1 k := by
      obtain rfl : k = 0 := by omega
      exact I1.out
    have IK : Hid (DecI w w1 sec i v1 k) := T
    obtain ⟨a, c, rfl, yv, fv, av⟩ := T.own.by
    clear T
    have kl : Hid ((cat sec i k).length = 44 + 63 * k) := cat_len HL.out i k
    obtain ⟨g, rfl⟩ : ∃ g, a = some ⟨g, 0, none⟩ := by
      rcases av with rfl | h
      · have := yv.none_nil.1
        have := kl.out
        omega
      · exact h
    have YV : Hid _ := yv
    have GG : Hid (w.heap.size + 1 ≤ g) := (fv _ rfl).1
    have cf := yv.fits
    have cm := yv.max
    rw [kl.out] at cf YV ⊢
    have HK : Hid (k = n - 1) := hk
    have mL : Hid (hN (sec i) ≤ 44 + 63 * k) := by
      show _ ≤ _
      rw [HK.out, HN.out]; exact fsize_holds
    have mL' : ((hN (sec i) : Nat) : Int) ≤ 44 + 63 * (k : Int) := by have := mL.out; omega
    have cf' : 44 + 63 * (k : Int) ≤ (c : Int) := by omega
    have cm' : (c : Int) ≤ 9223372036854775807 := by unfold maxLen at cm; omega
    clear yv fv av cf cm kl hk
    go_wp2_with fail
    refine Calls.mono (payloadBytes_any g0 (sec i) w1 (Y0.out.below IK.out.bel)) ?_
    rintro e w2 ⟨rfl, b2⟩
    have B2 : Hid (Below w.heap.size w w2) := nextB IK.out.bel b2
    have BX : Hid (w2.heap[w.heap.size]? = some (.cells #[.int .u8 0, .int .u64 0, .int .u32 0, .slice none 0 0] 75)) := by
      show _ = _
      rw [b2.block _ (Array.getElem?_eq_some_iff.1 IK.out.box).1]; exact IK.out.box
    obtain ⟨m, hm⟩ : ∃ m, m = hN (sec i) := ⟨_, rfl⟩
    have YP : Hid (By w2 (some ⟨g, 0, none⟩) m c (payB sec i)) := by
      have y := (YV.out.below b2).seg 0 m (by rw [hm]; have := mL.out; omega)
      have e : seg (cat sec i k) 0 m = payB sec i := by
        unfold seg payB; rw [List.drop_zero, ← HN.out, ← HK.out, hm]
      rw [e] at y
      exact y
    have m1000 : Hid (m ≤ 1000) := by rw [hm]; exact HM.out
    rw [← hm]
    rw [← hm] at mL'
    have HMM : Hid (m = hN (sec i)) := hm
    have OK6 : Hid (ok67 sec i (fsize (hN (sec i)) - 1) = true) := by
      show _ = _
      rw [← HN.out, ← HK.out]; exact IK.out.ok
    have YH : Hid (By w2 (some ⟨g0, 0, none⟩) 64 64 (sec i)) := Y0.out.below B2.out
    have TB : Hid (Tab w2) := TT.out.next B2.out
    clear hm b2 YV IK mL
    go_wp2_with fail
    refine wp_region_held_drew (S := fun W => Below w2.heap.size w2 W) (by kernel_rfl) ((Below.refl _ _).drew) (fun hHeld => ?_)
    refine take2 rfl (i := 0) (v := .slice (some ⟨g0, 0, none⟩) 64 64) (d := 35) rfl rfl (by kernel_rfl) (by kernel_rfl) (by kernel_rfl) (fun _ _ _ h => h) (Or.inl ⟨by rfl, ?_⟩) (by exact hHeld) ?_
    · intro W hW
      try dsimp only at hW
      go_simp
    try simp only [Act.put, List.setIfInBounds_toArray, List.set_cons_zero, List.set_cons_succ]
    refine take2 rfl (i := 1) (v := .slice (some ⟨g0, 0, none⟩) 16 64) (d := 36) rfl rfl (by kernel_rfl) (by kernel_rfl) (by kernel_rfl) (fun _ _ _ h => h) (Or.inl ⟨by rfl, ?_⟩) (by exact hHeld) ?_
    · intro W hW
      try dsimp only at hW
      go_simp
    try simp only [Act.put, List.setIfInBounds_toArray, List.set_cons_zero, List.set_cons_succ]
    refine take2 rfl (i := 2) (v := .slice (some ⟨g, 0, none⟩) m c) (d := 37) rfl rfl (by kernel_rfl) (by kernel_rfl) (by kernel_rfl) (fun _ _ _ h => h) (Or.inl ⟨by rfl, ?_⟩) (by exact hHeld) ?_
    · intro W hW
      try dsimp only at hW
      go_simp
    try simp only [Act.put, List.setIfInBounds_toArray, List.set_cons_zero, List.set_cons_succ]
    refine take2 rfl (i := 7) (v := .slice (some ⟨g0, 0, none⟩) 64 64) (d := 42) rfl rfl (by kernel_rfl) (by kernel_rfl) (by kernel_rfl) (fun _ _ _ h => h) (Or.inl ⟨by rfl, ?_⟩) (by exact hHeld) ?_
    · intro W hW
      try dsimp only at hW
      go_simp
    try simp only [Act.put, List.setIfInBounds_toArray, List.set_cons_zero, List.set_cons_succ]
    refine take2 rfl (i := 8) (v := .slice (some ⟨g0, 16, none⟩) 4 48) (d := 43) rfl rfl (by kernel_rfl) (by kernel_rfl) (by kernel_rfl) (fun _ _ _ h => h) (Or.inl ⟨by rfl, ?_⟩) (by exact hHeld) ?_
    · intro W hW
      try dsimp only at hW
      go_simp
    try simp only [Act.put, List.setIfInBounds_toArray, List.set_cons_zero, List.set_cons_succ]
    refine wpAnyH_ready (rs := [3]) (by kernel_rfl) (by simp) ?_
    refine cons2 rfl rfl (fun K hK => ?_)
    go_simp
    have A3 : Hid (Below w2.heap.size w2 ((w2.alloc (.cells #[.slice (some ⟨g0, 0, none⟩) 16 64, .slice (some ⟨g, 0, none⟩) m c] 32)).drew)) := (allocB w2 _).drew
    have c30 : Hid (((w2.alloc (.cells #[.slice (some ⟨g0, 0, none⟩) 16 64, .slice (some ⟨g, 0, none⟩) m c] 32)).drew).cell? ⟨w2.heap.size, 0, none⟩ = some (.slice (some ⟨g0, 0, none⟩) 16 64)) := by
      show (w2.alloc _).cell? _ = _
      rw [cell_of_row _ _ _ _ _ _ (heap_alloc_last w2 _)]; rfl
    have c31 : Hid (((w2.alloc (.cells #[.slice (some ⟨g0, 0, none⟩) 16 64, .slice (some ⟨g, 0, none⟩) m c] 32)).drew).cell? ⟨w2.heap.size, 1, none⟩ = some (.slice (some ⟨g, 0, none⟩) m c)) := by
      show (w2.alloc _).cell? _ = _
      rw [cell_of_row _ _ _ _ _ _ (heap_alloc_last w2 _)]; rfl
    generalize (w2.alloc (.cells #[.slice (some ⟨g0, 0, none⟩) 16 64, .slice (some ⟨g, 0, none⟩) m c] 32)).drew = w3 at *
    refine hK.out _ _ ?_ (fun hX => ?_)
    · exact A3.out
    clear hK K hX
    try simp only [Act.put, List.setIfInBounds_toArray, List.set_cons_zero, List.set_cons_succ]
    clear hHeld
    refine wpAnyH_strong (S' := fun W => Below w3.heap.size w3 W) (fun W hW => nextB A3.out hW) _ _ _ _ ?_
    have hHeld : Below w3.heap.size w3 w3 := Below.refl _ _
    refine wpAnyH_ready (rs := [4]) (by kernel_rfl) (by simp) ?_
    refine cons2 rfl rfl (fun K hK => ?_)
    go_simp
    refine Calls.mono (Concat2_any w2.heap.size (some ⟨g0, 0, none⟩) 16 64 (seg (sec i) 0 16) (some ⟨g, 0, none⟩) m c (payB sec i) w3 c30.out c31.out (by have := (YH.out.below A3.out).seg 0 16 (by decide); simpa using this) (YP.out.below A3.out) (by decide) (by have := m1000.out; omega)) ?_
    rintro e w4 ⟨⟨v4, rfl, o4⟩, b4⟩
    obtain ⟨a4, c4, rfl, y4, -, -⟩ := o4.by
    have e16 : seg (sec i) 0 16 = (sec i).take 16 := by unfold seg; rw [List.drop_zero]
    rw [e16] at y4 ⊢
    have Y4 : Hid _ := y4
    have B4 : Hid _ := b4
    have D4 : Hid (Below w2.heap.size w2 w4) := nextB A3.out b4
    have L4 : Hid (((sec i).take 16 ++ payB sec i).length ≤ 100000) := by
      show _ ≤ _
      rw [List.length_append, YP.out.len, List.length_take]; have := m1000.out; omega
    generalize ((sec i).take 16 ++ payB sec i).length = l4 at *
    clear y4 b4 o4 e16 c30 c31
    go_wp2_with fail
    refine hK.out _ _ ?_ (fun hX => ?_)
    · exact B4.out
    clear hK K hX
    try simp only [Act.put, List.setIfInBounds_toArray, List.set_cons_zero, List.set_cons_succ]
    clear hHeld
    refine wpAnyH_strong (S' := fun W => Below w4.heap.size w4 W) (fun W hW => nextB B4.out hW) _ _ _ _ ?_
    have hHeld : Below w4.heap.size w4 w4 := Below.refl _ _
    refine wpAnyH_ready (rs := [5]) (by kernel_rfl) (by simp) ?_
    refine cons2 rfl rfl (fun K hK => ?_)
    go_simp
    refine Calls.mono (pSum_any a4 l4 c4 ((sec i).take 16 ++ payB sec i) w4 Y4.out L4.out (TB.out.next D4.out)) ?_
    rintro e w5 ⟨rfl, rfl⟩
    obtain ⟨S, hS⟩ : ∃ S, S = sum ((sec i).take 16 ++ payB sec i) := ⟨_, rfl⟩
    have S32 : S < 4294967296 := by rw [hS]; unfold sum; omega
    have S32' : (S : Int) < 4294967296 := by omega
    rw [← hS]
    have HS : Hid (S = sum ((sec i).take 16 ++ payB sec i)) := hS
    clear hS
    go_wp2_with fail
    refine hK.out _ _ ?_ (fun hX => ?_)
    · exact hHeld
    clear hK K hX
    try simp only [Act.put, List.setIfInBounds_toArray, List.set_cons_zero, List.set_cons_succ]
    refine take2 rfl (i := 6) (v := .int .u64 (S : Nat)) (d := 41) rfl rfl (by kernel_rfl) (by kernel_rfl) (by kernel_rfl) (fun _ _ _ h => h) (Or.inl ⟨by rfl, ?_⟩) (by exact hHeld) ?_
    · intro W hW
      try dsimp only at hW
      have hw : IntKind.u64.wrap (S : Int) = (S : Int) := by rw [IntKind.wrap_u64]; omega
      go_simp
    try simp only [Act.put, List.setIfInBounds_toArray, List.set_cons_zero, List.set_cons_succ]
    refine wpAnyH_ready (rs := [9]) (by kernel_rfl) (by simp) ?_
    refine cons2 rfl rfl (fun K hK => ?_)
    go_simp
    refine Calls.mono (low_any (some ⟨g0, 16, none⟩) 4 48 (seg (sec i) 16 4) w4 (by have := (YH.out.below D4.out).seg 16 4 (by decide); simpa using this) (by decide) (by decide)) ?_
    rintro e w6 ⟨rfl, b6⟩
    have B6 : Hid _ := b6
    have D6 : Hid (Below w2.heap.size w2 w6) := nextB D4.out b6
    clear b6
    obtain ⟨L, hL⟩ : ∃ L, L = upB (seg (sec i) 16 4) := ⟨_, rfl⟩
    rw [← hL]
    have HLs : Hid (L = hSum (sec i)) := hL
    clear hL
    go_wp2_with fail
    refine hK.out _ _ ?_ (fun hX => ?_)
    · exact B6.out
    clear hK K hX
    try simp only [Act.put, List.setIfInBounds_toArray, List.set_cons_zero, List.set_cons_succ]
    by_cases cS : S = L
    · have cS2 : ((S : Int) != (L : Int)) = false := by rw [bne_eq_false_iff_eq]; omega
      have DK : Hid (dOk sec i = true) := by
        show _ = _
        unfold dOk; rw [Bool.and_eq_true]; exact ⟨OK6.out, decide_eq_true (HS.out.symm.trans (cS.trans HLs.out))⟩
      clear hHeld
      refine wpAnyH_strong (S' := fun W => Below w6.heap.size w6 W) (fun W hW => nextB B6.out hW) _ _ _ _ ?_
      have hHeld : Below w6.heap.size w6 w6 := Below.refl _ _
      refine take2 rfl (i := 10) (v := .bool false) (d := 45) rfl rfl (by kernel_rfl) (by kernel_rfl) (by kernel_rfl) (fun _ _ _ h => h) (Or.inl ⟨by rfl, ?_⟩) (by exact hHeld) ?_
      · intro W hW
        try dsimp only at hW
        go_simp
      try simp only [Act.put, List.setIfInBounds_toArray, List.set_cons_zero, List.set_cons_succ]
      refine wpAnyH_done (by kernel_rfl) ?_ _
      go_wp2_with fail
      obtain ⟨kd, hkd⟩ : ∃ x, x = (sec i).getD 1 0 := ⟨_, rfl⟩
      have CK : Hid (∀ W, Below w6.heap.size w6 W → W.cell? ⟨g0, 1, none⟩ = some (.int .u8 kd)) := fun W hW => by
        obtain ⟨b', o', h1, h2⟩ := (YH.out.below (nextB D6.out hW)).cell
        have e := h1 (by decide)
        simp at e
        obtain ⟨rfl, rfl⟩ := e
        rw [hkd]
        exact h2 1 (by decide)
      clear hHeld
      have KD : Hid (kd = (sec i).getD 1 0) := hkd
      clear hkd
      refine wp_region_held_drew (S := fun W => W.cell? ⟨g0, 1, none⟩ = some (.int .u8 kd)) (by kernel_rfl) (CK.out _ ((Below.refl _ _).drew)) (fun hHeld => ?_)
      refine take2 rfl (i := 0) (v := .slice (some ⟨g0, 0, none⟩) 64 64) (d := 47) rfl rfl (by kernel_rfl) (by kernel_rfl) (by kernel_rfl) (fun _ _ _ h => h) (Or.inl ⟨by rfl, ?_⟩) (by exact hHeld) ?_
      · intro W hW
        try dsimp only at hW
        go_simp
      try simp only [Act.put, List.setIfInBounds_toArray, List.set_cons_zero, List.set_cons_succ]
      refine take2 rfl (i := 1) (v := .pointer (some ⟨g0, 1, none⟩)) (d := 48) rfl rfl (by kernel_rfl) (by kernel_rfl) (by kernel_rfl) (fun _ _ _ h => h) (Or.inl ⟨by rfl, ?_⟩) (by exact hHeld) ?_
      · intro W hW
        try dsimp only at hW
        go_simp
      try simp only [Act.put, List.setIfInBounds_toArray, List.set_cons_zero, List.set_cons_succ]
      refine take2 rfl (i := 2) (v := .int .u8 kd) (d := 49) rfl rfl (by kernel_rfl) (by kernel_rfl) (by kernel_rfl) (fun _ _ _ h => h) (Or.inl ⟨by rfl, ?_⟩) (by exact hHeld) ?_
      · intro W hW
        try dsimp only at hW
        go_simp
      try simp only [Act.put, List.setIfInBounds_toArray, List.set_cons_zero, List.set_cons_succ]
      refine take2 rfl (i := 3) (v := .slice (some ⟨g0, 0, none⟩) 64 64) (d := 50) rfl rfl (by kernel_rfl) (by kernel_rfl) (by kernel_rfl) (fun _ _ _ h => h) (Or.inl ⟨by rfl, ?_⟩) (by exact hHeld) ?_
      · intro W hW
        try dsimp only at hW
        go_simp
      try simp only [Act.put, List.setIfInBounds_toArray, List.set_cons_zero, List.set_cons_succ]
      refine take2 rfl (i := 4) (v := .slice (some ⟨g0, 2, none⟩) 8 62) (d := 51) rfl rfl (by kernel_rfl) (by kernel_rfl) (by kernel_rfl) (fun _ _ _ h => h) (Or.inl ⟨by rfl, ?_⟩) (by exact hHeld) ?_
      · intro W hW
        try dsimp only at hW
        go_simp
      try simp only [Act.put, List.setIfInBounds_toArray, List.set_cons_zero, List.set_cons_succ]
      refine take2 rfl (i := 6) (v := .slice (some ⟨g0, 0, none⟩) 64 64) (d := 53) rfl rfl (by kernel_rfl) (by kernel_rfl) (by kernel_rfl) (fun _ _ _ h => h) (Or.inl ⟨by rfl, ?_⟩) (by exact hHeld) ?_
      · intro W hW
        try dsimp only at hW
        go_simp
      try simp only [Act.put, List.setIfInBounds_toArray, List.set_cons_zero, List.set_cons_succ]
      refine take2 rfl (i := 7) (v := .slice (some ⟨g0, 10, none⟩) 4 54) (d := 54) rfl rfl (by kernel_rfl) (by kernel_rfl) (by kernel_rfl) (fun _ _ _ h => h) (Or.inl ⟨by rfl, ?_⟩) (by exact hHeld) ?_
      · intro W hW
        try dsimp only at hW
        go_simp
      try simp only [Act.put, List.setIfInBounds_toArray, List.set_cons_zero, List.set_cons_succ]
      refine take2 rfl (i := 10) (v := .slice (some ⟨g, 0, none⟩) m c) (d := 57) rfl rfl (by kernel_rfl) (by kernel_rfl) (by kernel_rfl) (fun _ _ _ h => h) (Or.inl ⟨by rfl, ?_⟩) (by exact hHeld) ?_
      · intro W hW
        try dsimp only at hW
        go_simp
      try simp only [Act.put, List.setIfInBounds_toArray, List.set_cons_zero, List.set_cons_succ]
      refine wpAnyH_ready (rs := [5]) (by kernel_rfl) (by simp) ?_
      refine cons2 rfl rfl (fun K hK => ?_)
      go_simp
      refine Calls.mono (low_any (some ⟨g0, 2, none⟩) 8 62 (seg (sec i) 2 8) _ (by have := (YH.out.below (D6.out.drew)).seg 2 8 (by decide); simpa using this) (by decide) (by decide)) ?_
      rintro e w7 ⟨rfl, b7⟩
      have B7 : Hid (Below w6.heap.size w6 w7) := nextB ((Below.refl _ _).drew) b7
      have D7 : Hid (Below w2.heap.size w2 w7) := nextB D6.out B7.out
      clear b7
      obtain ⟨lf, hlf⟩ : ∃ L, L = upB (seg (sec i) 2 8) := ⟨_, rfl⟩
      rw [← hlf]
      have LF : Hid (lf = hLife (sec i)) := hlf
      clear hlf
      go_wp2_with fail
      refine hK.out _ _ ?_ (fun hX => ?_)
      · exact CK.out _ B7.out
      clear hK K hX
      try simp only [Act.put, List.setIfInBounds_toArray, List.set_cons_zero, List.set_cons_succ]
      clear hHeld
      have hHeld := CK.out w7 B7.out
      refine wpAnyH_ready (rs := [8]) (by kernel_rfl) (by simp) ?_
      refine cons2 rfl rfl (fun K hK => ?_)
      go_simp
      refine Calls.mono (low_any (some ⟨g0, 10, none⟩) 4 54 (seg (sec i) 10 4) _ (by have := (YH.out.below D7.out).seg 10 4 (by decide); simpa using this) (by decide) (by decide)) ?_
      rintro e w8 ⟨rfl, b8⟩
      have B8 : Hid (Below w6.heap.size w6 w8) := nextB B7.out b8
      have D8 : Hid (Below w2.heap.size w2 w8) := nextB D7.out b8
      clear b8
      obtain ⟨nm, hnm⟩ : ∃ L, L = upB (seg (sec i) 10 4) := ⟨_, rfl⟩
      rw [← hnm]
      have NM : Hid (nm = hNum (sec i)) := hnm
      have nm4 : (nm : Int) < 4294967296 := by
        have := upB_lt (seg (sec i) 10 4) (seg_ok (HY.out i) 10 4)
        rw [seg_len (by rw [HL.out]; decide), ← hnm] at this
        have : nm < 4294967296 := this
        omega
      clear hnm
      go_wp2_with fail
      refine hK.out _ _ ?_ (fun hX => ?_)
      · exact CK.out _ B8.out
      clear hK K hX
      try simp only [Act.put, List.setIfInBounds_toArray, List.set_cons_zero, List.set_cons_succ]
      clear hHeld
      have hHeld := CK.out w8 B8.out
      refine take2 rfl (i := 9) (v := .int .u32 (nm : Nat)) (d := 56) rfl rfl (by kernel_rfl) (by kernel_rfl) (by kernel_rfl) (fun _ _ _ h => h) (Or.inl ⟨by rfl, ?_⟩) (by exact hHeld) ?_
      · intro W hW
        try dsimp only at hW
        have hw : IntKind.u32.wrap (nm : Int) = (nm : Int) := by rw [IntKind.wrap_u32]; omega
        go_simp
      try simp only [Act.put, List.setIfInBounds_toArray, List.set_cons_zero, List.set_cons_succ]
      refine take2 rfl (i := 11) (v := .agg #[.int .u8 kd, .int .u64 (lf : Nat), .int .u32 (nm : Nat), .slice (some ⟨g, 0, none⟩) m c]) (d := 58) rfl rfl (by kernel_rfl) (by kernel_rfl) (by kernel_rfl) (fun _ _ _ h => h) (Or.inl ⟨by rfl, ?_⟩) (by exact hHeld) ?_
      · intro W hW
        try dsimp only at hW
        go_simp
      try simp only [Act.put, List.setIfInBounds_toArray, List.set_cons_zero, List.set_cons_succ]
      obtain ⟨q0, q1, q2, q3, qf⟩ := box_cells (wr := w8) (by rw [D8.out.block _ (Array.getElem?_eq_some_iff.1 BX.out).1]; exact BX.out)
      have g0n : ¬ g0 = w.heap.size := by
        have := Y0.out.old (by decide) _ rfl
        exact fun e => by rw [← e] at this; exact absurd this (by simp)
      have g0n' : ¬ w.heap.size = g0 := fun e => g0n e.symm
      refine wpAnyH_ready (rs := [12]) (by kernel_rfl) (by simp) ?_
      refine cons2 rfl rfl (fun K hK => ?_)
      go_simp
      have R9 : Hid _ := set_box4 (v0 := .int .u8 kd) (v1 := .int .u64 (lf : Nat)) (v2 := .int .u32 (nm : Nat)) (v3 := .slice (some ⟨g, 0, none⟩) m c) q0 q1 q2 q3 qf
      have H9 : Hid (((((w8.setCell ⟨w.heap.size, 0, none⟩ (.int .u8 kd)).setCell ⟨w.heap.size, 1, none⟩ (.int .u64 (lf : Nat))).setCell ⟨w.heap.size, 2, none⟩ (.int .u32 (nm : Nat))).setCell ⟨w.heap.size, 3, none⟩ (.slice (some ⟨g, 0, none⟩) m c)).cell? ⟨g0, 1, none⟩ = some (.int .u8 kd)) := by
        show _ = _
        rw [cell_set_far _ g0n', cell_set_far _ g0n', cell_set_far _ g0n', cell_set_far _ g0n']; exact hHeld
      have B9 : Hid (Below w.heap.size w ((((w8.setCell ⟨w.heap.size, 0, none⟩ (.int .u8 kd)).setCell ⟨w.heap.size, 1, none⟩ (.int .u64 (lf : Nat))).setCell ⟨w.heap.size, 2, none⟩ (.int .u32 (nm : Nat))).setCell ⟨w.heap.size, 3, none⟩ (.slice (some ⟨g, 0, none⟩) m c))) := ((((nextB B2.out D8.out).setCell (Nat.le_refl _) _).setCell (Nat.le_refl _) _).setCell (Nat.le_refl _) _).setCell (Nat.le_refl _) _
      have Y9 : Hid (By ((((w8.setCell ⟨w.heap.size, 0, none⟩ (.int .u8 kd)).setCell ⟨w.heap.size, 1, none⟩ (.int .u64 (lf : Nat))).setCell ⟨w.heap.size, 2, none⟩ (.int .u32 (nm : Nat))).setCell ⟨w.heap.size, 3, none⟩ (.slice (some ⟨g, 0, none⟩) m c)) (some ⟨g, 0, none⟩) m c (payB sec i)) := by
        have gn : g ≠ w.heap.size := by have := GG.out; omega
        exact (YP.out.below D8.out).kept fun _ x hx => by
          simp at hx; subst hx
          rw [Below.heap_setCell _ _ _ _ gn, Below.heap_setCell _ _ _ _ gn, Below.heap_setCell _ _ _ _ gn, Below.heap_setCell _ _ _ _ gn]
      generalize ((((w8.setCell ⟨w.heap.size, 0, none⟩ (.int .u8 kd)).setCell ⟨w.heap.size, 1, none⟩ (.int .u64 (lf : Nat))).setCell ⟨w.heap.size, 2, none⟩ (.int .u32 (nm : Nat))).setCell ⟨w.heap.size, 3, none⟩ (.slice (some ⟨g, 0, none⟩) m c)) = w9 at *
      clear q0 q1 q2 q3 qf
      refine hK.out _ _ ?_ (fun hX => ?_)
      · exact H9.out
      clear hK K hX
      try simp only [Act.put, List.setIfInBounds_toArray, List.set_cons_zero, List.set_cons_succ]
      clear hHeld
      have hHeld := H9.out
      refine take2 rfl (i := 13) (v := .bool true) (d := 3) rfl rfl (by kernel_rfl) (by kernel_rfl) (by kernel_rfl) (fun _ _ _ h => h) (Or.inl ⟨by rfl, ?_⟩) (by exact hHeld) ?_
      · intro W hW
        try dsimp only at hW
        go_simp
      try simp only [Act.put, List.setIfInBounds_toArray, List.set_cons_zero, List.set_cons_succ]
      refine wpAnyH_done (by kernel_rfl) ?_ _
      obtain ⟨q0, q1, q2, q3, qf⟩ := R9.out
      go_wp2
      refine bodyPost_ret (v := .tuple #[.agg #[.int .u8 kd, .int .u64 (lf : Nat), .int .u32 (nm : Nat), .slice (some ⟨g, 0, none⟩) m c], .bool true]) (by simp [results, Tryd.results59, go_sem, q0, q1, q2, q3, qf]) rfl ?_
      refine ⟨fun x => absurd (DK.out.symm.trans x) (by decide), fun _ => ⟨g, c, ?_, ?_, ?_⟩, B9.out⟩
      · rw [← LF.out, ← NM.out, ← HMM.out, ← KD.out]
      · rw [← HMM.out]; exact Y9.out
      · have := GG.out; omega

    · have cS2 : ((S : Int) != (L : Int)) = true := by rw [bne_iff_ne]; omega
      have DK : Hid (dOk sec i = false) := by
        show _ = _
        unfold dOk; rw [Bool.and_eq_false_iff]; right; exact decide_eq_false (fun x => cS (HS.out.trans (x.trans HLs.out.symm)))
      clear hHeld
      refine wpAnyH_strong (S' := fun W => Below w6.heap.size w6 W) (fun W hW => nextB B6.out hW) _ _ _ _ ?_
      have hHeld : Below w6.heap.size w6 w6 := Below.refl _ _
      refine take2 rfl (i := 10) (v := .bool true) (d := 45) rfl rfl (by kernel_rfl) (by kernel_rfl) (by kernel_rfl) (fun _ _ _ h => h) (Or.inl ⟨by rfl, ?_⟩) (by exact hHeld) ?_
      · intro W hW
        try dsimp only at hW
        go_simp
      try simp only [Act.put, List.setIfInBounds_toArray, List.set_cons_zero, List.set_cons_succ]
      refine wpAnyH_done (by kernel_rfl) ?_ _
      obtain ⟨q0, q1, q2, q3, qf⟩ := box_cells (wr := w6) (by rw [D6.out.block _ (Array.getElem?_eq_some_iff.1 BX.out).1]; exact BX.out)
      go_wp2
      refine bodyPost_ret (v := .tuple #[.agg #[.int .u8 0, .int .u64 0, .int .u32 0, .slice none 0 0], .bool false]) (by simp [results, Tryd.results59, go_sem, q0, q1, q2, q3, qf]) rfl ?_
      exact ⟨fun _ => rfl, fun x => absurd (DK.out.symm.trans x) (by decide), ((((nextB B2.out D6.out).setCell (Nat.le_refl _) _).setCell (Nat.le_refl _) _).setCell (Nat.le_refl _) _).setCell (Nat.le_refl _) _⟩


  · have cc' : (2 : Int) ≤ (cap : Int) := by omega
    go_wp2_with fail
    go_loopg [5, 17] n (fun g x iv wr => ∃ k : Nat, k ≤ n - 1 ∧ g = n - k ∧ iv = .int .i64 k ∧ Hid (DecI w wr sec i x k))
    case atStart => exact ⟨0, Nat.zero_le _, rfl, rfl, I1.out⟩
    case round =>
      obtain ⟨k, hk, rfl, rfl, T⟩ := hrel
      by_cases q : k < n - 1
      · have q' : (k : Int) < ((n - 1 : Nat) : Int) := by omega
        obtain ⟨gs, cs, ys⟩ := H.out.at_ (k + 1) (by omega)
        have c1 : wr.cell? ⟨b, 1 + k, none⟩ = some (.slice (some ⟨gs, 0, none⟩) 64 64) := by
          rw [Nat.add_comm 1 k]; exact (T.out.bel.cell (p := ⟨b, k + 1, none⟩) bl).trans cs
        have ys' := ys.below T.out.bel
        have cx : wr.cell? ⟨gs, 0, none⟩ = some (.int .u8 ((sec (i + (k + 1))).getD 0 0)) := by
          obtain ⟨b', o', h1, h2⟩ := ys'.cell
          have e := h1 (by decide)
          simp at e
          obtain ⟨rfl, rfl⟩ := e
          exact h2 0 (by decide)
        have YS : Hid (By wr (some ⟨gs, 1, none⟩) 63 63 ((sec (i + (k + 1))).drop 1)) := by
          have := ys'.seg 1 63 (by decide)
          have e : seg (sec (i + (k + 1))) 1 63 = (sec (i + (k + 1))).drop 1 := by
            unfold seg; rw [List.take_of_length_le]; rw [List.length_drop, HL.out]; decide
          rw [e] at this
          exact this
        clear cs ys ys'
        by_cases cz : (sec (i + (k + 1))).getD 0 0 = 67
        · have OKN : Hid (ok67 sec i (k + 1) = true) := by
            show _ = _
            rw [ok67, Bool.and_eq_true]; exact ⟨T.out.ok, by rw [cz]; rfl⟩
          rw [cz] at cx
          have KL : Hid ((cat sec i k).length = 44 + 63 * k) := cat_len HL.out i k
          clear cz
          go_wp2_with (at_builtin; refine wpList_append_by rfl (.tmp 26) (.tmp 28) rfl (w.heap.size + 1) _ (cat sec i k) rfl T.out.own (some ⟨gs, 1, none⟩) 63 63 ((sec (i + (k + 1))).drop 1) rfl YS.out (by rw [KL.out]; omega) (by have := (Array.getElem?_eq_some_iff.1 T.out.box).1; omega) ?_; intro v2 w2 o2 g2)
          go_roundg (n - (k + 1))
          case measure => omega
          case rel =>
            refine ⟨k + 1, by omega, rfl, by go_num, o2, OKN.out, ?_, ?_⟩
            · exact T.out.bel.grown g2 T.out.bel.size (fun j hj => by have := (T.out.own.row.lt j hj).1; omega)
            · rw [g2.block _ (Array.getElem?_eq_some_iff.1 T.out.box).1 (fun e => by have := (T.out.own.row.lt _ e.symm).1; omega)]; exact T.out.box
        · have cz' : ((sec (i + (k + 1))).getD 0 0 == 67) = false := beq_eq_false_iff_ne.2 cz
          have DK : Hid (dOk sec i = false) := dOk_bad (k := k) (by have := HN.out; omega) cz
          have BW : Hid _ := T.out.bel
          obtain ⟨q0, q1, q2, q3, qf⟩ := box_cells T.out.box
          generalize (sec (i + (k + 1))).getD 0 0 = x at *
          clear cz
          go_wp2
          refine bodyPost_ret (v := .tuple #[.agg #[.int .u8 0, .int .u64 0, .int .u32 0, .slice none 0 0], .bool false]) (by simp [results, Tryd.results59, go_sem, q0, q1, q2, q3, qf]) rfl ?_
          exact ⟨fun _ => rfl, fun x => absurd (DK.out.symm.trans x) (by decide), (((BW.out.setCell (Nat.le_refl _) _).setCell (Nat.le_refl _) _).setCell (Nat.le_refl _) _).setCell (Nat.le_refl _) _⟩
      · have hk : k = n - 1 := by omega
        rw [hk]
        rw [hk] at T
        clear hk
        obtain ⟨k, hk⟩ : ∃ k, k = n - 1 := ⟨_, rfl⟩
        rw [← hk] at T
        have T := T.out
        have IK : Hid (DecI w wr sec i u5 k) := T
        obtain ⟨a, c, rfl, yv, fv, av⟩ := T.own.by
        clear T
        have kl : Hid ((cat sec i k).length = 44 + 63 * k) := cat_len HL.out i k
        obtain ⟨g, rfl⟩ : ∃ g, a = some ⟨g, 0, none⟩ := by
          rcases av with rfl | h
          · have := yv.none_nil.1
            have := kl.out
            omega
          · exact h
        have YV : Hid _ := yv
        have GG : Hid (w.heap.size + 1 ≤ g) := (fv _ rfl).1
        have cf := yv.fits
        have cm := yv.max
        rw [kl.out] at cf YV ⊢
        have HK : Hid (k = n - 1) := hk
        have mL : Hid (hN (sec i) ≤ 44 + 63 * k) := by
          show _ ≤ _
          rw [HK.out, HN.out]; exact fsize_holds
        have mL' : ((hN (sec i) : Nat) : Int) ≤ 44 + 63 * (k : Int) := by have := mL.out; omega
        have cf' : 44 + 63 * (k : Int) ≤ (c : Int) := by omega
        have cm' : (c : Int) ≤ 9223372036854775807 := by unfold maxLen at cm; omega
        clear yv fv av cf cm kl hk
        go_wp2_with fail
        refine Calls.mono (payloadBytes_any g0 (sec i) wr (Y0.out.below IK.out.bel)) ?_
        rintro e w2 ⟨rfl, b2⟩
        have B2 : Hid (Below w.heap.size w w2) := nextB IK.out.bel b2
        have BX : Hid (w2.heap[w.heap.size]? = some (.cells #[.int .u8 0, .int .u64 0, .int .u32 0, .slice none 0 0] 75)) := by
          show _ = _
          rw [b2.block _ (Array.getElem?_eq_some_iff.1 IK.out.box).1]; exact IK.out.box
        obtain ⟨m, hm⟩ : ∃ m, m = hN (sec i) := ⟨_, rfl⟩
        have YP : Hid (By w2 (some ⟨g, 0, none⟩) m c (payB sec i)) := by
          have y := (YV.out.below b2).seg 0 m (by rw [hm]; have := mL.out; omega)
          have e : seg (cat sec i k) 0 m = payB sec i := by
            unfold seg payB; rw [List.drop_zero, ← HN.out, ← HK.out, hm]
          rw [e] at y
          exact y
        have m1000 : Hid (m ≤ 1000) := by rw [hm]; exact HM.out
        rw [← hm]
        rw [← hm] at mL'
        have HMM : Hid (m = hN (sec i)) := hm
        have OK6 : Hid (ok67 sec i (fsize (hN (sec i)) - 1) = true) := by
          show _ = _
          rw [← HN.out, ← HK.out]; exact IK.out.ok
        have YH : Hid (By w2 (some ⟨g0, 0, none⟩) 64 64 (sec i)) := Y0.out.below B2.out
        have TB : Hid (Tab w2) := TT.out.next B2.out
        clear hm b2 YV IK mL
        go_wp2_with fail
        refine wp_region_held_drew (S := fun W => Below w2.heap.size w2 W) (by kernel_rfl) ((Below.refl _ _).drew) (fun hHeld => ?_)
        refine take2 rfl (i := 0) (v := .slice (some ⟨g0, 0, none⟩) 64 64) (d := 35) rfl rfl (by kernel_rfl) (by kernel_rfl) (by kernel_rfl) (fun _ _ _ h => h) (Or.inl ⟨by rfl, ?_⟩) (by exact hHeld) ?_
        · intro W hW
          try dsimp only at hW
          go_simp
        try simp only [Act.put, List.setIfInBounds_toArray, List.set_cons_zero, List.set_cons_succ]
        refine take2 rfl (i := 1) (v := .slice (some ⟨g0, 0, none⟩) 16 64) (d := 36) rfl rfl (by kernel_rfl) (by kernel_rfl) (by kernel_rfl) (fun _ _ _ h => h) (Or.inl ⟨by rfl, ?_⟩) (by exact hHeld) ?_
        · intro W hW
          try dsimp only at hW
          go_simp
        try simp only [Act.put, List.setIfInBounds_toArray, List.set_cons_zero, List.set_cons_succ]
        refine take2 rfl (i := 2) (v := .slice (some ⟨g, 0, none⟩) m c) (d := 37) rfl rfl (by kernel_rfl) (by kernel_rfl) (by kernel_rfl) (fun _ _ _ h => h) (Or.inl ⟨by rfl, ?_⟩) (by exact hHeld) ?_
        · intro W hW
          try dsimp only at hW
          go_simp
        try simp only [Act.put, List.setIfInBounds_toArray, List.set_cons_zero, List.set_cons_succ]
        refine take2 rfl (i := 7) (v := .slice (some ⟨g0, 0, none⟩) 64 64) (d := 42) rfl rfl (by kernel_rfl) (by kernel_rfl) (by kernel_rfl) (fun _ _ _ h => h) (Or.inl ⟨by rfl, ?_⟩) (by exact hHeld) ?_
        · intro W hW
          try dsimp only at hW
          go_simp
        try simp only [Act.put, List.setIfInBounds_toArray, List.set_cons_zero, List.set_cons_succ]
        refine take2 rfl (i := 8) (v := .slice (some ⟨g0, 16, none⟩) 4 48) (d := 43) rfl rfl (by kernel_rfl) (by kernel_rfl) (by kernel_rfl) (fun _ _ _ h => h) (Or.inl ⟨by rfl, ?_⟩) (by exact hHeld) ?_
        · intro W hW
          try dsimp only at hW
          go_simp
        try simp only [Act.put, List.setIfInBounds_toArray, List.set_cons_zero, List.set_cons_succ]
        refine wpAnyH_ready (rs := [3]) (by kernel_rfl) (by simp) ?_
        refine cons2 rfl rfl (fun K hK => ?_)
        go_simp
        have A3 : Hid (Below w2.heap.size w2 ((w2.alloc (.cells #[.slice (some ⟨g0, 0, none⟩) 16 64, .slice (some ⟨g, 0, none⟩) m c] 32)).drew)) := (allocB w2 _).drew
        have c30 : Hid (((w2.alloc (.cells #[.slice (some ⟨g0, 0, none⟩) 16 64, .slice (some ⟨g, 0, none⟩) m c] 32)).drew).cell? ⟨w2.heap.size, 0, none⟩ = some (.slice (some ⟨g0, 0, none⟩) 16 64)) := by
          show (w2.alloc _).cell? _ = _
          rw [cell_of_row _ _ _ _ _ _ (heap_alloc_last w2 _)]; rfl
        have c31 : Hid (((w2.alloc (.cells #[.slice (some ⟨g0, 0, none⟩) 16 64, .slice (some ⟨g, 0, none⟩) m c] 32)).drew).cell? ⟨w2.heap.size, 1, none⟩ = some (.slice (some ⟨g, 0, none⟩) m c)) := by
          show (w2.alloc _).cell? _ = _
          rw [cell_of_row _ _ _ _ _ _ (heap_alloc_last w2 _)]; rfl
        generalize (w2.alloc (.cells #[.slice (some ⟨g0, 0, none⟩) 16 64, .slice (some ⟨g, 0, none⟩) m c] 32)).drew = w3 at *
        refine hK.out _ _ ?_ (fun hX => ?_)
        · exact A3.out
        clear hK K hX
        try simp only [Act.put, List.setIfInBounds_toArray, List.set_cons_zero, List.set_cons_succ]
        clear hHeld
        refine wpAnyH_strong (S' := fun W => Below w3.heap.size w3 W) (fun W hW => nextB A3.out hW) _ _ _ _ ?_
        have hHeld : Below w3.heap.size w3 w3 := Below.refl _ _
        refine wpAnyH_ready (rs := [4]) (by kernel_rfl) (by simp) ?_
        refine cons2 rfl rfl (fun K hK => ?_)
        go_simp
        refine Calls.mono (Concat2_any w2.heap.size (some ⟨g0, 0, none⟩) 16 64 (seg (sec i) 0 16) (some ⟨g, 0, none⟩) m c (payB sec i) w3 c30.out c31.out (by have := (YH.out.below A3.out).seg 0 16 (by decide); simpa using this) (YP.out.below A3.out) (by decide) (by have := m1000.out; omega)) ?_
        rintro e w4 ⟨⟨v4, rfl, o4⟩, b4⟩
        obtain ⟨a4, c4, rfl, y4, -, -⟩ := o4.by
        have e16 : seg (sec i) 0 16 = (sec i).take 16 := by unfold seg; rw [List.drop_zero]
        rw [e16] at y4 ⊢
        have Y4 : Hid _ := y4
        have B4 : Hid _ := b4
        have D4 : Hid (Below w2.heap.size w2 w4) := nextB A3.out b4
        have L4 : Hid (((sec i).take 16 ++ payB sec i).length ≤ 100000) := by
          show _ ≤ _
          rw [List.length_append, YP.out.len, List.length_take]; have := m1000.out; omega
        generalize ((sec i).take 16 ++ payB sec i).length = l4 at *
        clear y4 b4 o4 e16 c30 c31
        go_wp2_with fail
        refine hK.out _ _ ?_ (fun hX => ?_)
        · exact B4.out
        clear hK K hX
        try simp only [Act.put, List.setIfInBounds_toArray, List.set_cons_zero, List.set_cons_succ]
        clear hHeld
        refine wpAnyH_strong (S' := fun W => Below w4.heap.size w4 W) (fun W hW => nextB B4.out hW) _ _ _ _ ?_
        have hHeld : Below w4.heap.size w4 w4 := Below.refl _ _
        refine wpAnyH_ready (rs := [5]) (by kernel_rfl) (by simp) ?_
        refine cons2 rfl rfl (fun K hK => ?_)
        go_simp
        refine Calls.mono (pSum_any a4 l4 c4 ((sec i).take 16 ++ payB sec i) w4 Y4.out L4.out (TB.out.next D4.out)) ?_
        rintro e w5 ⟨rfl, rfl⟩
        obtain ⟨S, hS⟩ : ∃ S, S = sum ((sec i).take 16 ++ payB sec i) := ⟨_, rfl⟩
        have S32 : S < 4294967296 := by rw [hS]; unfold sum; omega
        have S32' : (S : Int) < 4294967296 := by omega
        rw [← hS]
        have HS : Hid (S = sum ((sec i).take 16 ++ payB sec i)) := hS
        clear hS
        go_wp2_with fail
        refine hK.out _ _ ?_ (fun hX => ?_)
        · exact hHeld
        clear hK K hX
        try simp only [Act.put, List.setIfInBounds_toArray, List.set_cons_zero, List.set_cons_succ]
        refine take2 rfl (i := 6) (v := .int .u64 (S : Nat)) (d := 41) rfl rfl (by kernel_rfl) (by kernel_rfl) (by kernel_rfl) (fun _ _ _ h => h) (Or.inl ⟨by rfl, ?_⟩) (by exact hHeld) ?_
        · intro W hW
          try dsimp only at hW
          have hw : IntKind.u64.wrap (S : Int) = (S : Int) := by rw [IntKind.wrap_u64]; omega
          go_simp
        try simp only [Act.put, List.setIfInBounds_toArray, List.set_cons_zero, List.set_cons_succ]
        refine wpAnyH_ready (rs := [9]) (by kernel_rfl) (by simp) ?_
        refine cons2 rfl rfl (fun K hK => ?_)
        go_simp
        refine Calls.mono (low_any (some ⟨g0, 16, none⟩) 4 48 (seg (sec i) 16 4) w4 (by have := (YH.out.below D4.out).seg 16 4 (by decide); simpa using this) (by decide) (by decide)) ?_
        rintro e w6 ⟨rfl, b6⟩
        have B6 : Hid _ := b6
        have D6 : Hid (Below w2.heap.size w2 w6) := nextB D4.out b6
        clear b6
        obtain ⟨L, hL⟩ : ∃ L, L = upB (seg (sec i) 16 4) := ⟨_, rfl⟩
        rw [← hL]
        have HLs : Hid (L = hSum (sec i)) := hL
        clear hL
        go_wp2_with fail
        refine hK.out _ _ ?_ (fun hX => ?_)
        · exact B6.out
        clear hK K hX
        try simp only [Act.put, List.setIfInBounds_toArray, List.set_cons_zero, List.set_cons_succ]
        by_cases cS : S = L
        · have cS2 : ((S : Int) != (L : Int)) = false := by rw [bne_eq_false_iff_eq]; omega
          have DK : Hid (dOk sec i = true) := by
            show _ = _
            unfold dOk; rw [Bool.and_eq_true]; exact ⟨OK6.out, decide_eq_true (HS.out.symm.trans (cS.trans HLs.out))⟩
          clear hHeld
          refine wpAnyH_strong (S' := fun W => Below w6.heap.size w6 W) (fun W hW => nextB B6.out hW) _ _ _ _ ?_
          have hHeld : Below w6.heap.size w6 w6 := Below.refl _ _
          refine take2 rfl (i := 10) (v := .bool false) (d := 45) rfl rfl (by kernel_rfl) (by kernel_rfl) (by kernel_rfl) (fun _ _ _ h => h) (Or.inl ⟨by rfl, ?_⟩) (by exact hHeld) ?_
          · intro W hW
            try dsimp only at hW
            go_simp
          try simp only [Act.put, List.setIfInBounds_toArray, List.set_cons_zero, List.set_cons_succ]
          refine wpAnyH_done (by kernel_rfl) ?_ _
          go_wp2_with fail
          obtain ⟨kd, hkd⟩ : ∃ x, x = (sec i).getD 1 0 := ⟨_, rfl⟩
          have CK : Hid (∀ W, Below w6.heap.size w6 W → W.cell? ⟨g0, 1, none⟩ = some (.int .u8 kd)) := fun W hW => by
            obtain ⟨b', o', h1, h2⟩ := (YH.out.below (nextB D6.out hW)).cell
            have e := h1 (by decide)
            simp at e
            obtain ⟨rfl, rfl⟩ := e
            rw [hkd]
            exact h2 1 (by decide)
          clear hHeld
          have KD : Hid (kd = (sec i).getD 1 0) := hkd
          clear hkd
          refine wp_region_held_drew (S := fun W => W.cell? ⟨g0, 1, none⟩ = some (.int .u8 kd)) (by kernel_rfl) (CK.out _ ((Below.refl _ _).drew)) (fun hHeld => ?_)
          refine take2 rfl (i := 0) (v := .slice (some ⟨g0, 0, none⟩) 64 64) (d := 47) rfl rfl (by kernel_rfl) (by kernel_rfl) (by kernel_rfl) (fun _ _ _ h => h) (Or.inl ⟨by rfl, ?_⟩) (by exact hHeld) ?_
          · intro W hW
            try dsimp only at hW
            go_simp
          try simp only [Act.put, List.setIfInBounds_toArray, List.set_cons_zero, List.set_cons_succ]
          refine take2 rfl (i := 1) (v := .pointer (some ⟨g0, 1, none⟩)) (d := 48) rfl rfl (by kernel_rfl) (by kernel_rfl) (by kernel_rfl) (fun _ _ _ h => h) (Or.inl ⟨by rfl, ?_⟩) (by exact hHeld) ?_
          · intro W hW
            try dsimp only at hW
            go_simp
          try simp only [Act.put, List.setIfInBounds_toArray, List.set_cons_zero, List.set_cons_succ]
          refine take2 rfl (i := 2) (v := .int .u8 kd) (d := 49) rfl rfl (by kernel_rfl) (by kernel_rfl) (by kernel_rfl) (fun _ _ _ h => h) (Or.inl ⟨by rfl, ?_⟩) (by exact hHeld) ?_
          · intro W hW
            try dsimp only at hW
            go_simp
          try simp only [Act.put, List.setIfInBounds_toArray, List.set_cons_zero, List.set_cons_succ]
          refine take2 rfl (i := 3) (v := .slice (some ⟨g0, 0, none⟩) 64 64) (d := 50) rfl rfl (by kernel_rfl) (by kernel_rfl) (by kernel_rfl) (fun _ _ _ h => h) (Or.inl ⟨by rfl, ?_⟩) (by exact hHeld) ?_
          · intro W hW
            try dsimp only at hW
            go_simp
          try simp only [Act.put, List.setIfInBounds_toArray, List.set_cons_zero, List.set_cons_succ]
          refine take2 rfl (i := 4) (v := .slice (some ⟨g0, 2, none⟩) 8 62) (d := 51) rfl rfl (by kernel_rfl) (by kernel_rfl) (by kernel_rfl) (fun _ _ _ h => h) (Or.inl ⟨by rfl, ?_⟩) (by exact hHeld) ?_
          · intro W hW
            try dsimp only at hW
            go_simp
          try simp only [Act.put, List.setIfInBounds_toArray, List.set_cons_zero, List.set_cons_succ]
          refine take2 rfl (i := 6) (v := .slice (some ⟨g0, 0, none⟩) 64 64) (d := 53) rfl rfl (by kernel_rfl) (by kernel_rfl) (by kernel_rfl) (fun _ _ _ h => h) (Or.inl ⟨by rfl, ?_⟩) (by exact hHeld) ?_
          · intro W hW
            try dsimp only at hW
            go_simp
          try simp only [Act.put, List.setIfInBounds_toArray, List.set_cons_zero, List.set_cons_succ]
          refine take2 rfl (i := 7) (v := .slice (some ⟨g0, 10, none⟩) 4 54) (d := 54) rfl rfl (by kernel_rfl) (by kernel_rfl) (by kernel_rfl) (fun _ _ _ h => h) (Or.inl ⟨by rfl, ?_⟩) (by exact hHeld) ?_
          · intro W hW
            try dsimp only at hW
            go_simp
          try simp only [Act.put, List.setIfInBounds_toArray, List.set_cons_zero, List.set_cons_succ]
          refine take2 rfl (i := 10) (v := .slice (some ⟨g, 0, none⟩) m c) (d := 57) rfl rfl (by kernel_rfl) (by kernel_rfl) (by kernel_rfl) (fun _ _ _ h => h) (Or.inl ⟨by rfl, ?_⟩) (by exact hHeld) ?_
          · intro W hW
            try dsimp only at hW
            go_simp
          try simp only [Act.put, List.setIfInBounds_toArray, List.set_cons_zero, List.set_cons_succ]
          refine wpAnyH_ready (rs := [5]) (by kernel_rfl) (by simp) ?_
          refine cons2 rfl rfl (fun K hK => ?_)
          go_simp
          refine Calls.mono (low_any (some ⟨g0, 2, none⟩) 8 62 (seg (sec i) 2 8) _ (by have := (YH.out.below (D6.out.drew)).seg 2 8 (by decide); simpa using this) (by decide) (by decide)) ?_
          rintro e w7 ⟨rfl, b7⟩
          have B7 : Hid (Below w6.heap.size w6 w7) := nextB ((Below.refl _ _).drew) b7
          have D7 : Hid (Below w2.heap.size w2 w7) := nextB D6.out B7.out
          clear b7
          obtain ⟨lf, hlf⟩ : ∃ L, L = upB (seg (sec i) 2 8) := ⟨_, rfl⟩
          rw [← hlf]
          have LF : Hid (lf = hLife (sec i)) := hlf
          clear hlf
          go_wp2_with fail
          refine hK.out _ _ ?_ (fun hX => ?_)
          · exact CK.out _ B7.out
          clear hK K hX
          try simp only [Act.put, List.setIfInBounds_toArray, List.set_cons_zero, List.set_cons_succ]
          clear hHeld
          have hHeld := CK.out w7 B7.out
          refine wpAnyH_ready (rs := [8]) (by kernel_rfl) (by simp) ?_
          refine cons2 rfl rfl (fun K hK => ?_)
          go_simp
          refine Calls.mono (low_any (some ⟨g0, 10, none⟩) 4 54 (seg (sec i) 10 4) _ (by have := (YH.out.below D7.out).seg 10 4 (by decide); simpa using this) (by decide) (by decide)) ?_
          rintro e w8 ⟨rfl, b8⟩
          have B8 : Hid (Below w6.heap.size w6 w8) := nextB B7.out b8
          have D8 : Hid (Below w2.heap.size w2 w8) := nextB D7.out b8
          clear b8
          obtain ⟨nm, hnm⟩ : ∃ L, L = upB (seg (sec i) 10 4) := ⟨_, rfl⟩
          rw [← hnm]
          have NM : Hid (nm = hNum (sec i)) := hnm
          have nm4 : (nm : Int) < 4294967296 := by
            have := upB_lt (seg (sec i) 10 4) (seg_ok (HY.out i) 10 4)
            rw [seg_len (by rw [HL.out]; decide), ← hnm] at this
            have : nm < 4294967296 := this
            omega
          clear hnm
          go_wp2_with fail
          refine hK.out _ _ ?_ (fun hX => ?_)
          · exact CK.out _ B8.out
          clear hK K hX
          try simp only [Act.put, List.setIfInBounds_toArray, List.set_cons_zero, List.set_cons_succ]
          clear hHeld
          have hHeld := CK.out w8 B8.out
          refine take2 rfl (i := 9) (v := .int .u32 (nm : Nat)) (d := 56) rfl rfl (by kernel_rfl) (by kernel_rfl) (by kernel_rfl) (fun _ _ _ h => h) (Or.inl ⟨by rfl, ?_⟩) (by exact hHeld) ?_
          · intro W hW
            try dsimp only at hW
            have hw : IntKind.u32.wrap (nm : Int) = (nm : Int) := by rw [IntKind.wrap_u32]; omega
            go_simp
          try simp only [Act.put, List.setIfInBounds_toArray, List.set_cons_zero, List.set_cons_succ]
          refine take2 rfl (i := 11) (v := .agg #[.int .u8 kd, .int .u64 (lf : Nat), .int .u32 (nm : Nat), .slice (some ⟨g, 0, none⟩) m c]) (d := 58) rfl rfl (by kernel_rfl) (by kernel_rfl) (by kernel_rfl) (fun _ _ _ h => h) (Or.inl ⟨by rfl, ?_⟩) (by exact hHeld) ?_
          · intro W hW
            try dsimp only at hW
            go_simp
          try simp only [Act.put, List.setIfInBounds_toArray, List.set_cons_zero, List.set_cons_succ]
          obtain ⟨q0, q1, q2, q3, qf⟩ := box_cells (wr := w8) (by rw [D8.out.block _ (Array.getElem?_eq_some_iff.1 BX.out).1]; exact BX.out)
          have g0n : ¬ g0 = w.heap.size := by
            have := Y0.out.old (by decide) _ rfl
            exact fun e => by rw [← e] at this; exact absurd this (by simp)
          have g0n' : ¬ w.heap.size = g0 := fun e => g0n e.symm
          refine wpAnyH_ready (rs := [12]) (by kernel_rfl) (by simp) ?_
          refine cons2 rfl rfl (fun K hK => ?_)
          go_simp
          have R9 : Hid _ := set_box4 (v0 := .int .u8 kd) (v1 := .int .u64 (lf : Nat)) (v2 := .int .u32 (nm : Nat)) (v3 := .slice (some ⟨g, 0, none⟩) m c) q0 q1 q2 q3 qf
          have H9 : Hid (((((w8.setCell ⟨w.heap.size, 0, none⟩ (.int .u8 kd)).setCell ⟨w.heap.size, 1, none⟩ (.int .u64 (lf : Nat))).setCell ⟨w.heap.size, 2, none⟩ (.int .u32 (nm : Nat))).setCell ⟨w.heap.size, 3, none⟩ (.slice (some ⟨g, 0, none⟩) m c)).cell? ⟨g0, 1, none⟩ = some (.int .u8 kd)) := by
            show _ = _
            rw [cell_set_far _ g0n', cell_set_far _ g0n', cell_set_far _ g0n', cell_set_far _ g0n']; exact hHeld
          have B9 : Hid (Below w.heap.size w ((((w8.setCell ⟨w.heap.size, 0, none⟩ (.int .u8 kd)).setCell ⟨w.heap.size, 1, none⟩ (.int .u64 (lf : Nat))).setCell ⟨w.heap.size, 2, none⟩ (.int .u32 (nm : Nat))).setCell ⟨w.heap.size, 3, none⟩ (.slice (some ⟨g, 0, none⟩) m c))) := ((((nextB B2.out D8.out).setCell (Nat.le_refl _) _).setCell (Nat.le_refl _) _).setCell (Nat.le_refl _) _).setCell (Nat.le_refl _) _
          have Y9 : Hid (By ((((w8.setCell ⟨w.heap.size, 0, none⟩ (.int .u8 kd)).setCell ⟨w.heap.size, 1, none⟩ (.int .u64 (lf : Nat))).setCell ⟨w.heap.size, 2, none⟩ (.int .u32 (nm : Nat))).setCell ⟨w.heap.size, 3, none⟩ (.slice (some ⟨g, 0, none⟩) m c)) (some ⟨g, 0, none⟩) m c (payB sec i)) := by
            have gn : g ≠ w.heap.size := by have := GG.out; omega
            exact (YP.out.below D8.out).kept fun _ x hx => by
              simp at hx; subst hx
              rw [Below.heap_setCell _ _ _ _ gn, Below.heap_setCell _ _ _ _ gn, Below.heap_setCell _ _ _ _ gn, Below.heap_setCell _ _ _ _ gn]
          generalize ((((w8.setCell ⟨w.heap.size, 0, none⟩ (.int .u8 kd)).setCell ⟨w.heap.size, 1, none⟩ (.int .u64 (lf : Nat))).setCell ⟨w.heap.size, 2, none⟩ (.int .u32 (nm : Nat))).setCell ⟨w.heap.size, 3, none⟩ (.slice (some ⟨g, 0, none⟩) m c)) = w9 at *
          clear q0 q1 q2 q3 qf
          refine hK.out _ _ ?_ (fun hX => ?_)
          · exact H9.out
          clear hK K hX
          try simp only [Act.put, List.setIfInBounds_toArray, List.set_cons_zero, List.set_cons_succ]
          clear hHeld
          have hHeld := H9.out
          refine take2 rfl (i := 13) (v := .bool true) (d := 3) rfl rfl (by kernel_rfl) (by kernel_rfl) (by kernel_rfl) (fun _ _ _ h => h) (Or.inl ⟨by rfl, ?_⟩) (by exact hHeld) ?_
          · intro W hW
            try dsimp only at hW
            go_simp
          try simp only [Act.put, List.setIfInBounds_toArray, List.set_cons_zero, List.set_cons_succ]
          refine wpAnyH_done (by kernel_rfl) ?_ _
          obtain ⟨q0, q1, q2, q3, qf⟩ := R9.out
          go_wp2
          refine bodyPost_ret (v := .tuple #[.agg #[.int .u8 kd, .int .u64 (lf : Nat), .int .u32 (nm : Nat), .slice (some ⟨g, 0, none⟩) m c], .bool true]) (by simp [results, Tryd.results59, go_sem, q0, q1, q2, q3, qf]) rfl ?_
          refine ⟨fun x => absurd (DK.out.symm.trans x) (by decide), fun _ => ⟨g, c, ?_, ?_, ?_⟩, B9.out⟩
          · rw [← LF.out, ← NM.out, ← HMM.out, ← KD.out]
          · rw [← HMM.out]; exact Y9.out
          · have := GG.out; omega

        · have cS2 : ((S : Int) != (L : Int)) = true := by rw [bne_iff_ne]; omega
          have DK : Hid (dOk sec i = false) := by
            show _ = _
            unfold dOk; rw [Bool.and_eq_false_iff]; right; exact decide_eq_false (fun x => cS (HS.out.trans (x.trans HLs.out.symm)))
          clear hHeld
          refine wpAnyH_strong (S' := fun W => Below w6.heap.size w6 W) (fun W hW => nextB B6.out hW) _ _ _ _ ?_
          have hHeld : Below w6.heap.size w6 w6 := Below.refl _ _
          refine take2 rfl (i := 10) (v := .bool true) (d := 45) rfl rfl (by kernel_rfl) (by kernel_rfl) (by kernel_rfl) (fun _ _ _ h => h) (Or.inl ⟨by rfl, ?_⟩) (by exact hHeld) ?_
          · intro W hW
            try dsimp only at hW
            go_simp
          try simp only [Act.put, List.setIfInBounds_toArray, List.set_cons_zero, List.set_cons_succ]
          refine wpAnyH_done (by kernel_rfl) ?_ _
          obtain ⟨q0, q1, q2, q3, qf⟩ := box_cells (wr := w6) (by rw [D6.out.block _ (Array.getElem?_eq_some_iff.1 BX.out).1]; exact BX.out)
          go_wp2
          refine bodyPost_ret (v := .tuple #[.agg #[.int .u8 0, .int .u64 0, .int .u32 0, .slice none 0 0], .bool false]) (by simp [results, Tryd.results59, go_sem, q0, q1, q2, q3, qf]) rfl ?_
          exact ⟨fun _ => rfl, fun x => absurd (DK.out.symm.trans x) (by decide), ((((nextB B2.out D6.out).setCell (Nat.le_refl _) _).setCell (Nat.le_refl _) _).setCell (Nat.le_refl _) _).setCell (Nat.le_refl _) _⟩



end Go.Proofs.YtblmfkdcahhhbaaDoor
