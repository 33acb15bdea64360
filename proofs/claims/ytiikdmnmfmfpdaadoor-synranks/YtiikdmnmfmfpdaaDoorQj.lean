/- The walk over SynRanks. -/
import Derived.Test.YtiikdmnmfmfpdaaDoorQi
import Derived.Laws.Concat
import Derived.BigQuiet
import Derived.Deep.RegionHeld3
namespace Go.Proofs.YtiikdmnmfmfpdaaDoor
open Go.Shelf Go.RowKit
set_option linter.unusedVariables false
set_option linter.unusedSimpArgs false

theorem al_cell (w : World) (arr : Array Value) (t : TypeId) (i : Nat) (u : Value) (h : arr[i]? = some u) : (w.alloc (.cells arr t)).cell? ⟨w.heap.size, i, none⟩ = some u := by
  simp [h]
theorem al_keep {w : World} {p : Addr} {u : Value} (o : Obj) (h : w.cell? p = some u) : (w.alloc o).cell? p = some u := by
  rw [((Below.refl w.heap.size w).alloc (Nat.le_refl _) o).cell (p := p) (World.block_lt_of_cell? _ _ h)]
  exact h
/-- The law's rows of operators in memory. -/
structure Ops (w : World) (g : Nat) : Prop where
  o : ∀ a, a < 5 → w.cell? ⟨g + 1 + 1 + 1 + 1 + 1, a, none⟩ = some (.slice (some ⟨g + a, 0, none⟩) (lnR a) (lnR a))
  r : ∀ a i, a < 5 → i < lnR a → w.cell? ⟨g + a, i, none⟩ = some (.string (opS a i))
  l : g + 6 ≤ w.heap.size
theorem Ops.next {w w' : World} {g : Nat} (h : Ops w g) (hb : Below w.heap.size w w') : Ops w' g :=
  ⟨fun a ha => by rw [hb.cell (p := ⟨g + 1 + 1 + 1 + 1 + 1, a, none⟩) (by have := h.l; show g + 1 + 1 + 1 + 1 + 1 < _; omega)]; exact h.o a ha, fun a i ha hi => by rw [hb.cell (p := ⟨g + a, i, none⟩) (by have := h.l; show g + a < _; omega)]; exact h.r a i ha hi, Nat.le_trans h.l hb.size⟩
theorem Ops.new (w1 : World) : Ops ((((((w1.alloc (.cells #[.string ⟨#[111, 114]⟩] 9)).alloc (.cells #[.string ⟨#[97, 110, 100]⟩] 9)).alloc (.cells #[.string ⟨#[60]⟩, .string ⟨#[60, 61]⟩, .string ⟨#[62]⟩, .string ⟨#[62, 61]⟩, .string ⟨#[61, 61]⟩, .string ⟨#[33, 61]⟩] 9)).alloc (.cells #[.string ⟨#[43]⟩, .string ⟨#[45]⟩] 9)).alloc (.cells #[.string ⟨#[42]⟩, .string ⟨#[47]⟩] 9)).alloc (.cells #[.slice (some ⟨w1.heap.size, 0, none⟩) 1 1, .slice (some ⟨w1.heap.size + 1, 0, none⟩) 1 1, .slice (some ⟨w1.heap.size + 1 + 1, 0, none⟩) 6 6, .slice (some ⟨w1.heap.size + 1 + 1 + 1, 0, none⟩) 2 2, .slice (some ⟨w1.heap.size + 1 + 1 + 1 + 1, 0, none⟩) 2 2] 23)) w1.heap.size := by
  have z1 : (w1.alloc (.cells #[.string ⟨#[111, 114]⟩] 9)).heap.size = w1.heap.size + 1 := by simp
  have z2 : ((w1.alloc (.cells #[.string ⟨#[111, 114]⟩] 9)).alloc (.cells #[.string ⟨#[97, 110, 100]⟩] 9)).heap.size = w1.heap.size + 2 := by simp
  have z3 : (((w1.alloc (.cells #[.string ⟨#[111, 114]⟩] 9)).alloc (.cells #[.string ⟨#[97, 110, 100]⟩] 9)).alloc (.cells #[.string ⟨#[60]⟩, .string ⟨#[60, 61]⟩, .string ⟨#[62]⟩, .string ⟨#[62, 61]⟩, .string ⟨#[61, 61]⟩, .string ⟨#[33, 61]⟩] 9)).heap.size = w1.heap.size + 3 := by simp
  have z4 : ((((w1.alloc (.cells #[.string ⟨#[111, 114]⟩] 9)).alloc (.cells #[.string ⟨#[97, 110, 100]⟩] 9)).alloc (.cells #[.string ⟨#[60]⟩, .string ⟨#[60, 61]⟩, .string ⟨#[62]⟩, .string ⟨#[62, 61]⟩, .string ⟨#[61, 61]⟩, .string ⟨#[33, 61]⟩] 9)).alloc (.cells #[.string ⟨#[43]⟩, .string ⟨#[45]⟩] 9)).heap.size = w1.heap.size + 4 := by simp
  have z5 : (((((w1.alloc (.cells #[.string ⟨#[111, 114]⟩] 9)).alloc (.cells #[.string ⟨#[97, 110, 100]⟩] 9)).alloc (.cells #[.string ⟨#[60]⟩, .string ⟨#[60, 61]⟩, .string ⟨#[62]⟩, .string ⟨#[62, 61]⟩, .string ⟨#[61, 61]⟩, .string ⟨#[33, 61]⟩] 9)).alloc (.cells #[.string ⟨#[43]⟩, .string ⟨#[45]⟩] 9)).alloc (.cells #[.string ⟨#[42]⟩, .string ⟨#[47]⟩] 9)).heap.size = w1.heap.size + 5 := by simp
  refine ⟨fun a ha => ?_, fun a i ha hi => ?_, by simp⟩
  · have e : w1.heap.size + 1 + 1 + 1 + 1 + 1 = (((((w1.alloc (.cells #[.string ⟨#[111, 114]⟩] 9)).alloc (.cells #[.string ⟨#[97, 110, 100]⟩] 9)).alloc (.cells #[.string ⟨#[60]⟩, .string ⟨#[60, 61]⟩, .string ⟨#[62]⟩, .string ⟨#[62, 61]⟩, .string ⟨#[61, 61]⟩, .string ⟨#[33, 61]⟩] 9)).alloc (.cells #[.string ⟨#[43]⟩, .string ⟨#[45]⟩] 9)).alloc (.cells #[.string ⟨#[42]⟩, .string ⟨#[47]⟩] 9)).heap.size := by rw [z5]
    rw [e]
    refine al_cell _ _ _ a _ ?_
    match a, ha with
    | 0, _ => rfl
    | 1, _ => rfl
    | 2, _ => rfl
    | 3, _ => rfl
    | 4, _ => rfl
  · match a, ha with
    | 0, _ =>
      exact al_keep _ (al_keep _ (al_keep _ (al_keep _ (al_keep _ (al_cell _ _ _ i _ (by match i, hi with | 0, _ => rfl | x + 1, hi => exact absurd hi (by show ¬ x + 1 < 1; omega)))))))
    | 1, _ =>
      rw [← z1]
      exact al_keep _ (al_keep _ (al_keep _ (al_keep _ (al_cell _ _ _ i _ (by match i, hi with | 0, _ => rfl | x + 1, hi => exact absurd hi (by show ¬ x + 1 < 1; omega))))))
    | 2, _ =>
      rw [← z2]
      exact al_keep _ (al_keep _ (al_keep _ (al_cell _ _ _ i _ (by match i, hi with | 0, _ => rfl | 1, _ => rfl | 2, _ => rfl | 3, _ => rfl | 4, _ => rfl | 5, _ => rfl | x + 6, hi => exact absurd hi (by show ¬ x + 6 < 6; omega)))))
    | 3, _ =>
      rw [← z3]
      exact al_keep _ (al_keep _ (al_cell _ _ _ i _ (by match i, hi with | 0, _ => rfl | 1, _ => rfl | x + 2, hi => exact absurd hi (by show ¬ x + 2 < 2; omega))))
    | 4, _ =>
      rw [← z4]
      exact al_keep _ (al_cell _ _ _ i _ (by match i, hi with | 0, _ => rfl | 1, _ => rfl | x + 2, hi => exact absurd hi (by show ¬ x + 2 < 2; omega)))
theorem below6 (w1 : World) : Below w1.heap.size w1 ((((((w1.alloc (.cells #[.string ⟨#[111, 114]⟩] 9)).alloc (.cells #[.string ⟨#[97, 110, 100]⟩] 9)).alloc (.cells #[.string ⟨#[60]⟩, .string ⟨#[60, 61]⟩, .string ⟨#[62]⟩, .string ⟨#[62, 61]⟩, .string ⟨#[61, 61]⟩, .string ⟨#[33, 61]⟩] 9)).alloc (.cells #[.string ⟨#[43]⟩, .string ⟨#[45]⟩] 9)).alloc (.cells #[.string ⟨#[42]⟩, .string ⟨#[47]⟩] 9)).alloc (.cells #[.slice (some ⟨w1.heap.size, 0, none⟩) 1 1, .slice (some ⟨w1.heap.size + 1, 0, none⟩) 1 1, .slice (some ⟨w1.heap.size + 1 + 1, 0, none⟩) 6 6, .slice (some ⟨w1.heap.size + 1 + 1 + 1, 0, none⟩) 2 2, .slice (some ⟨w1.heap.size + 1 + 1 + 1 + 1, 0, none⟩) 2 2] 23)) :=
  ((((((Below.refl _ _).alloc (Nat.le_refl _) _).alloc (by simp) _).alloc (by simp <;> omega) _).alloc (by simp <;> omega) _).alloc (by simp <;> omega) _).alloc (by simp <;> omega) _
theorem lnR_le (a : Nat) : lnR a ≤ 6 := by
  match a with
  | 0 => decide
  | 1 => decide
  | 2 => decide
  | 3 => decide
  | 4 => decide
  | x + 5 => show (opR.getD (x + 5) []).length ≤ 6; simp [opR]
theorem opS_le (a i : Nat) : (opS a i).size ≤ 3 := by
  by_cases h : a < 5
  · by_cases h2 : i < 6
    · have key : ∀ a : Fin 5, ∀ i : Fin 6, (opS a.val i.val).size ≤ 3 := by decide
      exact key ⟨a, h⟩ ⟨i, h2⟩
    · unfold opS
      rw [List.getD_eq_getElem?_getD, List.getElem?_eq_none (by have := lnR_le a; unfold lnR at this; omega)]
      decide
  · unfold opS
    rw [List.getD_eq_getElem?_getD (l := opR), List.getElem?_eq_none (by show 5 ≤ a; omega)]
    show (([] : List ByteArray).getD i ⟨#[]⟩).size ≤ 3
    simp
    try decide
theorem Ops.four {w : World} {g a b i k na nb : Nat} {O1 O2 : ByteArray} (h : Ops w g) (ha : a < 5) (hb : b < 5) (hi : i < na) (hk : k < nb) (e1 : lnR a = na) (e2 : lnR b = nb) (e3 : opS a i = O1) (e4 : opS b k = O2) : w.cell? ⟨g + 1 + 1 + 1 + 1 + 1, a, none⟩ = some (.slice (some ⟨g + a, 0, none⟩) na na) ∧ w.cell? ⟨g + 1 + 1 + 1 + 1 + 1, b, none⟩ = some (.slice (some ⟨g + b, 0, none⟩) nb nb) ∧ w.cell? ⟨g + a, i, none⟩ = some (.string O1) ∧ w.cell? ⟨g + b, k, none⟩ = some (.string O2) := by
  subst e1 e2 e3 e4
  exact ⟨h.o a ha, h.o b hb, h.r a i ha hi, h.r b k hb hk⟩
theorem Ops.set6 {w : World} {g q : Nat} (h : Ops w g) (hq : g + 6 ≤ q) (v0 v1 v2 v3 v4 v5 : Value) : Ops ((((((w.setCell ⟨q, 0, none⟩ v0).setCell ⟨q, 1, none⟩ v1).setCell ⟨q, 2, none⟩ v2).setCell ⟨q, 3, none⟩ v3).setCell ⟨q, 4, none⟩ v4).setCell ⟨q, 5, none⟩ v5) g :=
  ⟨fun a ha => by rw [World.cell?_of_block (a := ⟨g + 1 + 1 + 1 + 1 + 1, a, none⟩) (heap6 w q v0 v1 v2 v3 v4 v5 _ (by show g + 1 + 1 + 1 + 1 + 1 ≠ q; omega))]; exact h.o a ha, fun a i ha hi => by rw [World.cell?_of_block (a := ⟨g + a, i, none⟩) (heap6 w q v0 v1 v2 v3 v4 v5 _ (by show g + a ≠ q; omega))]; exact h.r a i ha hi, by rw [size6]; exact h.l⟩
theorem sz_len (x : ByteArray) : x.data.toList.length = x.size := by simp
theorem wg_len (x y : ByteArray) : (wg x y).data.toList.length = 18 + x.size + 4 + y.size + 5 := by
  rw [sz_len]
  unfold wg
  simp only [ByteArray.size_append]
  rfl
theorem wl_len (x y : ByteArray) : (wl x y).data.toList.length = 17 + x.size + 4 + y.size + 6 := by
  rw [sz_len]
  unfold wl
  simp only [ByteArray.size_append]
  rfl
theorem ck_out {a i b k : Nat} (h : ckR a i b k = true) : (a = 2 ∧ b = 2 ∧ ∃ pa, ∀ w, Tbs w → Calls Tryd.prog 6 #[.string (txR (opS a i) (opS b k))] w fun e w' => PrP (.inr (pa, 7)) w e w') ∨ (¬ (a = 2 ∧ b = 2) ∧ ∃ t, sgB t = true ∧ shw t = (if b ≤ a then wg (opS a i) (opS b k) else wl (opS a i) (opS b k)).data.toList ∧ ∀ w, Tbs w → Calls Tryd.prog 6 #[.string (txR (opS a i) (opS b k))] w fun e w' => PrP (.inl t) w e w') := by
  unfold ckR at h
  generalize txR (opS a i) (opS b k) = T at h ⊢
  rw [Bool.and_eq_true] at h
  obtain ⟨h0, h⟩ := h
  have h0 := of_decide_eq_true h0
  cases hc : cutF T 0 with
  | mk RW e =>
    rw [hc] at h
    cases e with
    | some x => cases h
    | none =>
      simp only [Bool.and_eq_true] at h
      obtain ⟨h1, h2⟩ := h
      cases hp : parF (RW.map (wo T)) with
      | inr y =>
        obtain ⟨pa, n⟩ := y
        rw [hp] at h2
        simp at h2
        obtain ⟨rfl, e1, e2⟩ := h2
        exact Or.inl ⟨e1, e2, pa, fun w hT => parse_no T w RW _ h0 hc h1 hp hT.kt hT.sg⟩
      | inl t =>
        rw [hp] at h2
        simp at h2
        obtain ⟨⟨e1, e2⟩, e3⟩ := h2
        refine Or.inr ⟨(fun ⟨x, y⟩ => by rcases e3 with q | q; exact q x; exact q y), t, e1, ?_, fun w hT => parse_no T w RW _ h0 hc h1 hp hT.kt hT.sg⟩
        rw [e2]
set_option maxRecDepth 100000 in
set_option maxHeartbeats 4000000 in
theorem ranks_walk (a b i k : Int) (w : World) (hT : Tbs w) : Calls Tryd.prog 3 #[.int .i64 a, .int .i64 b, .int .i64 i, .int .i64 k] w fun e w' => e = .returned (.bool true) ∧ Below w.heap.size w w' := by
  have TH := hid hT
  have KA := hid (awake_any w hT)
  clear hT
  go_enter Tryd.func3, Tryd.ntmps3
  go_upto_region 3 with (go_at_call 5; with_reducible refine Calls.mono KA.out ?_; rintro e w1 ⟨rfl, b1⟩; have B1 := hid b1; have T1 := hid (TH.out.next b1); clear b1)
  have OP := hid (Ops.new w1)
  have BL := hid (below6 w1)
  have B2 := hid (nextB B1.out BL.out)
  have T2 := hid (T1.out.next BL.out)
  clear TH KA B1 T1 BL
  go_upto_region 4 with fail
  generalize ((((((w1.alloc (.cells #[.string ⟨#[111, 114]⟩] 9)).alloc (.cells #[.string ⟨#[97, 110, 100]⟩] 9)).alloc (.cells #[.string ⟨#[60]⟩, .string ⟨#[60, 61]⟩, .string ⟨#[62]⟩, .string ⟨#[62, 61]⟩, .string ⟨#[61, 61]⟩, .string ⟨#[33, 61]⟩] 9)).alloc (.cells #[.string ⟨#[43]⟩, .string ⟨#[45]⟩] 9)).alloc (.cells #[.string ⟨#[42]⟩, .string ⟨#[47]⟩] 9)).alloc (.cells #[.slice (some ⟨w1.heap.size, 0, none⟩) 1 1, .slice (some ⟨w1.heap.size + 1, 0, none⟩) 1 1, .slice (some ⟨w1.heap.size + 1 + 1, 0, none⟩) 6 6, .slice (some ⟨w1.heap.size + 1 + 1 + 1, 0, none⟩) 2 2, .slice (some ⟨w1.heap.size + 1 + 1 + 1 + 1, 0, none⟩) 2 2] 23)) = w2 at *
  generalize w1.heap.size = g at *
  by_cases h1 : a < 0
  · go_wp2_with fail
    go_ret
    exact ⟨rfl, B2.out⟩
  · by_cases h2 : 4 < a
    · go_wp2_with fail
      go_ret
      exact ⟨rfl, B2.out⟩
    · by_cases h3 : b < 0
      · go_wp2_with fail
        go_ret
        exact ⟨rfl, B2.out⟩
      · by_cases h4 : 4 < b
        · go_wp2_with fail
          go_ret
          exact ⟨rfl, B2.out⟩
        · by_cases h5 : i < 0
          · go_wp2_with fail
            go_ret
            exact ⟨rfl, B2.out⟩
          · by_cases h6 : k < 0
            · go_wp2_with fail
              go_ret
              exact ⟨rfl, B2.out⟩
            · obtain ⟨a', rfl⟩ : ∃ n : Nat, a = n := ⟨a.toNat, by omega⟩
              obtain ⟨b', rfl⟩ : ∃ n : Nat, b = n := ⟨b.toNat, by omega⟩
              obtain ⟨i', rfl⟩ : ∃ n : Nat, i = n := ⟨i.toNat, by omega⟩
              obtain ⟨k', rfl⟩ : ∃ n : Nat, k = n := ⟨k.toNat, by omega⟩
              have la := lnR_le a'
              have lb := lnR_le b'
              have ca := OP.out.o a' (by omega)
              have cb := OP.out.o b' (by omega)
              have LA := hid (show lnR a' = lnR a' from rfl)
              obtain ⟨na, hna⟩ : ∃ na, lnR a' = na := ⟨_, rfl⟩
              obtain ⟨nb, hnb⟩ : ∃ nb, lnR b' = nb := ⟨_, rfl⟩
              rw [hna] at ca la
              rw [hnb] at cb lb
              have HNA := hid hna
              have HNB := hid hnb
              clear hna hnb
              have a5 : (a' : Int) < 5 := by omega
              have b5 : (b' : Int) < 5 := by omega
              by_cases h7 : na ≤ i'
              · have h7' : (na : Int) ≤ (i' : Int) := by omega
                go_wp2_with fail
                go_ret
                exact ⟨rfl, B2.out⟩
              · have h7' : ¬ (na : Int) ≤ (i' : Int) := by omega
                by_cases h8 : nb ≤ k'
                · have h8' : (nb : Int) ≤ (k' : Int) := by omega
                  go_wp2_with fail
                  go_ret
                  exact ⟨rfl, B2.out⟩
                · have h8' : ¬ (nb : Int) ≤ (k' : Int) := by omega
                  have ha5 : a' < 5 := by omega
                  have hb5 : b' < 5 := by omega
                  have hi5 : i' < na := by omega
                  have hk5 : k' < nb := by omega
                  obtain ⟨O1, hO1⟩ : ∃ O1, opS a' i' = O1 := ⟨_, rfl⟩
                  obtain ⟨O2, hO2⟩ : ∃ O2, opS b' k' = O2 := ⟨_, rfl⟩
                  have HO1 := hid hO1
                  have HO2 := hid hO2
                  obtain ⟨_, _, ci, ck⟩ := OP.out.four ha5 hb5 hi5 hk5 HNA.out HNB.out hO1 hO2
                  have z1 : O1.size ≤ 3 := by rw [← hO1]; exact opS_le _ _
                  have z2 : O2.size ≤ 3 := by rw [← hO2]; exact opS_le _ _
                  have i5 : (i' : Int) < (na : Int) := by omega
                  have k5 : (k' : Int) < (nb : Int) := by omega
                  have CKO := ck_out (ckAll ⟨a', ha5⟩ ⟨b', hb5⟩ ⟨i', by omega⟩ ⟨k', by omega⟩ (by rw [HNA.out]; exact hi5) (by rw [HNB.out]; exact hk5))
                  simp only [hO1, hO2] at CKO
                  have s10 : 16 + O1.size ≤ 9223372036854775807 := by omega
                  have s11 : 16 + O1.size + 3 ≤ 9223372036854775807 := by omega
                  have s12 : 16 + O1.size + 3 + O2.size ≤ 9223372036854775807 := by omega
                  have s13 : 16 + O1.size + 3 + O2.size + 3 ≤ 9223372036854775807 := by omega
                  have s14 : 17 + O1.size ≤ 9223372036854775807 := by omega
                  have s15 : 17 + O1.size + 4 ≤ 9223372036854775807 := by omega
                  have s16 : 17 + O1.size + 4 + O2.size ≤ 9223372036854775807 := by omega
                  have s17 : 17 + O1.size + 4 + O2.size + 6 ≤ 9223372036854775807 := by omega
                  have s18 : 18 + O1.size ≤ 9223372036854775807 := by omega
                  have s19 : 18 + O1.size + 4 ≤ 9223372036854775807 := by omega
                  have s20 : 18 + O1.size + 4 + O2.size ≤ 9223372036854775807 := by omega
                  have s21 : 18 + O1.size + 4 + O2.size + 5 ≤ 9223372036854775807 := by omega
                  clear hO1 hO2
                  rcases CKO with ⟨e1, e2, pa, PC⟩ | ⟨ne, t, sg, sh, PC⟩
                  · have E1 := hid e1
                    have E2 := hid e2
                    clear e1 e2
                    go_upto_region 6 with fail
                    refine wp_region_held_drew (S := (fun W => W.cell? ⟨g + 1 + 1 + 1 + 1 + 1, a', none⟩ = some (.slice (some ⟨g + a', 0, none⟩) na na) ∧ W.cell? ⟨g + 1 + 1 + 1 + 1 + 1, b', none⟩ = some (.slice (some ⟨g + b', 0, none⟩) nb nb) ∧ W.cell? ⟨g + a', i', none⟩ = some (.string O1) ∧ W.cell? ⟨g + b', k', none⟩ = some (.string O2))) (by kernel_rfl) ⟨ca, cb, ci, ck⟩ (fun hHeld => ?_)
                    have OPz := hid (OP.out.next (show Below w2.heap.size w2 w2.drew from (Below.refl _ _).drew))
                    have Bz := hid (nextB B2.out (show Below w2.heap.size w2 w2.drew from (Below.refl _ _).drew))
                    have Tz := hid (T2.out.next (show Below w2.heap.size w2 w2.drew from (Below.refl _ _).drew))
                    have Dz := hid (show Below w2.heap.size w2 w2.drew from (Below.refl _ _).drew)
                    generalize w2.drew = wz at *
                    refine take2 rfl (i := 0) (v := .slice (some ⟨g + 1 + 1 + 1 + 1 + 1, 0, none⟩) 5 5) (d := 63) rfl rfl (by kernel_rfl) (by kernel_rfl) (by kernel_rfl) (fun _ _ _ h => h) (Or.inl ⟨by rfl, ?_⟩) hHeld ?_
                    · (intro W hW; (try dsimp only at hW); go_simp)
                    try simp only [Act.put, List.setIfInBounds_toArray, List.set_cons_zero, List.set_cons_succ]
                    refine take2 rfl (i := 1) (v := .int .i64 (a' : Nat)) (d := 64) rfl rfl (by kernel_rfl) (by kernel_rfl) (by kernel_rfl) (fun _ _ _ h => h) (Or.inl ⟨by rfl, ?_⟩) hHeld ?_
                    · (intro W hW; (try dsimp only at hW); go_simp)
                    try simp only [Act.put, List.setIfInBounds_toArray, List.set_cons_zero, List.set_cons_succ]
                    refine take2 rfl (i := 2) (v := .pointer (some ⟨g + 1 + 1 + 1 + 1 + 1, a', none⟩)) (d := 65) rfl rfl (by kernel_rfl) (by kernel_rfl) (by kernel_rfl) (fun _ _ _ h => h) (Or.inl ⟨by rfl, ?_⟩) hHeld ?_
                    · (intro W hW; (try dsimp only at hW); go_simp)
                    try simp only [Act.put, List.setIfInBounds_toArray, List.set_cons_zero, List.set_cons_succ]
                    refine take2 rfl (i := 3) (v := .slice (some ⟨g + a', 0, none⟩) na na) (d := 66) rfl rfl (by kernel_rfl) (by kernel_rfl) (by kernel_rfl) (fun _ _ _ h => h) (Or.inl ⟨by rfl, ?_⟩) hHeld ?_
                    · (intro W hW; (try dsimp only at hW); go_simp)
                    try simp only [Act.put, List.setIfInBounds_toArray, List.set_cons_zero, List.set_cons_succ]
                    refine take2 rfl (i := 4) (v := .int .i64 (i' : Nat)) (d := 67) rfl rfl (by kernel_rfl) (by kernel_rfl) (by kernel_rfl) (fun _ _ _ h => h) (Or.inl ⟨by rfl, ?_⟩) hHeld ?_
                    · (intro W hW; (try dsimp only at hW); go_simp)
                    try simp only [Act.put, List.setIfInBounds_toArray, List.set_cons_zero, List.set_cons_succ]
                    refine take2 rfl (i := 5) (v := .pointer (some ⟨g + a', i', none⟩)) (d := 68) rfl rfl (by kernel_rfl) (by kernel_rfl) (by kernel_rfl) (fun _ _ _ h => h) (Or.inl ⟨by rfl, ?_⟩) hHeld ?_
                    · (intro W hW; (try dsimp only at hW); go_simp)
                    try simp only [Act.put, List.setIfInBounds_toArray, List.set_cons_zero, List.set_cons_succ]
                    refine take2 rfl (i := 6) (v := .string O1) (d := 69) rfl rfl (by kernel_rfl) (by kernel_rfl) (by kernel_rfl) (fun _ _ _ h => h) (Or.inl ⟨by rfl, ?_⟩) hHeld ?_
                    · (intro W hW; (try dsimp only at hW); go_simp)
                    try simp only [Act.put, List.setIfInBounds_toArray, List.set_cons_zero, List.set_cons_succ]
                    refine take2 rfl (i := 7) (v := .string (⟨#[114, 117, 108, 101, 32, 114, 32, 98, 111, 111, 108, 32, 61, 32, 120, 32]⟩ ++ O1)) (d := 70) rfl rfl (by kernel_rfl) (by kernel_rfl) (by kernel_rfl) (fun _ _ _ h => h) (Or.inl ⟨by rfl, ?_⟩) hHeld ?_
                    · (intro W hW; (try dsimp only at hW); go_simp)
                    try simp only [Act.put, List.setIfInBounds_toArray, List.set_cons_zero, List.set_cons_succ]
                    refine take2 rfl (i := 8) (v := .string ((⟨#[114, 117, 108, 101, 32, 114, 32, 98, 111, 111, 108, 32, 61, 32, 120, 32]⟩ ++ O1) ++ ⟨#[32, 121, 32]⟩)) (d := 71) rfl rfl (by kernel_rfl) (by kernel_rfl) (by kernel_rfl) (fun _ _ _ h => h) (Or.inl ⟨by rfl, ?_⟩) hHeld ?_
                    · (intro W hW; (try dsimp only at hW); go_simp)
                    try simp only [Act.put, List.setIfInBounds_toArray, List.set_cons_zero, List.set_cons_succ]
                    refine take2 rfl (i := 9) (v := .slice (some ⟨g + 1 + 1 + 1 + 1 + 1, 0, none⟩) 5 5) (d := 72) rfl rfl (by kernel_rfl) (by kernel_rfl) (by kernel_rfl) (fun _ _ _ h => h) (Or.inl ⟨by rfl, ?_⟩) hHeld ?_
                    · (intro W hW; (try dsimp only at hW); go_simp)
                    try simp only [Act.put, List.setIfInBounds_toArray, List.set_cons_zero, List.set_cons_succ]
                    refine take2 rfl (i := 10) (v := .int .i64 (b' : Nat)) (d := 73) rfl rfl (by kernel_rfl) (by kernel_rfl) (by kernel_rfl) (fun _ _ _ h => h) (Or.inl ⟨by rfl, ?_⟩) hHeld ?_
                    · (intro W hW; (try dsimp only at hW); go_simp)
                    try simp only [Act.put, List.setIfInBounds_toArray, List.set_cons_zero, List.set_cons_succ]
                    refine take2 rfl (i := 11) (v := .pointer (some ⟨g + 1 + 1 + 1 + 1 + 1, b', none⟩)) (d := 74) rfl rfl (by kernel_rfl) (by kernel_rfl) (by kernel_rfl) (fun _ _ _ h => h) (Or.inl ⟨by rfl, ?_⟩) hHeld ?_
                    · (intro W hW; (try dsimp only at hW); go_simp)
                    try simp only [Act.put, List.setIfInBounds_toArray, List.set_cons_zero, List.set_cons_succ]
                    refine take2 rfl (i := 12) (v := .slice (some ⟨g + b', 0, none⟩) nb nb) (d := 75) rfl rfl (by kernel_rfl) (by kernel_rfl) (by kernel_rfl) (fun _ _ _ h => h) (Or.inl ⟨by rfl, ?_⟩) hHeld ?_
                    · (intro W hW; (try dsimp only at hW); go_simp)
                    try simp only [Act.put, List.setIfInBounds_toArray, List.set_cons_zero, List.set_cons_succ]
                    refine take2 rfl (i := 13) (v := .int .i64 (k' : Nat)) (d := 76) rfl rfl (by kernel_rfl) (by kernel_rfl) (by kernel_rfl) (fun _ _ _ h => h) (Or.inl ⟨by rfl, ?_⟩) hHeld ?_
                    · (intro W hW; (try dsimp only at hW); go_simp)
                    try simp only [Act.put, List.setIfInBounds_toArray, List.set_cons_zero, List.set_cons_succ]
                    refine take2 rfl (i := 14) (v := .pointer (some ⟨g + b', k', none⟩)) (d := 77) rfl rfl (by kernel_rfl) (by kernel_rfl) (by kernel_rfl) (fun _ _ _ h => h) (Or.inl ⟨by rfl, ?_⟩) hHeld ?_
                    · (intro W hW; (try dsimp only at hW); go_simp)
                    try simp only [Act.put, List.setIfInBounds_toArray, List.set_cons_zero, List.set_cons_succ]
                    refine take2 rfl (i := 15) (v := .string O2) (d := 78) rfl rfl (by kernel_rfl) (by kernel_rfl) (by kernel_rfl) (fun _ _ _ h => h) (Or.inl ⟨by rfl, ?_⟩) hHeld ?_
                    · (intro W hW; (try dsimp only at hW); go_simp)
                    try simp only [Act.put, List.setIfInBounds_toArray, List.set_cons_zero, List.set_cons_succ]
                    refine take2 rfl (i := 16) (v := .string (((⟨#[114, 117, 108, 101, 32, 114, 32, 98, 111, 111, 108, 32, 61, 32, 120, 32]⟩ ++ O1) ++ ⟨#[32, 121, 32]⟩) ++ O2)) (d := 79) rfl rfl (by kernel_rfl) (by kernel_rfl) (by kernel_rfl) (fun _ _ _ h => h) (Or.inl ⟨by rfl, ?_⟩) hHeld ?_
                    · (intro W hW; (try dsimp only at hW); go_simp)
                    try simp only [Act.put, List.setIfInBounds_toArray, List.set_cons_zero, List.set_cons_succ]
                    refine take2 rfl (i := 17) (v := .string ((((⟨#[114, 117, 108, 101, 32, 114, 32, 98, 111, 111, 108, 32, 61, 32, 120, 32]⟩ ++ O1) ++ ⟨#[32, 121, 32]⟩) ++ O2) ++ ⟨#[32, 122, 59]⟩)) (d := 80) rfl rfl (by kernel_rfl) (by kernel_rfl) (by kernel_rfl) (fun _ _ _ h => h) (Or.inl ⟨by rfl, ?_⟩) hHeld ?_
                    · (intro W hW; (try dsimp only at hW); go_simp)
                    try simp only [Act.put, List.setIfInBounds_toArray, List.set_cons_zero, List.set_cons_succ]
                    refine wpAnyH_ready (rs := [18, 23]) (by kernel_rfl) (by simp) ?_
                    refine cons22 rfl rfl rfl (fun K9 hK => ?_) (fun K9 hK => ?_)
                    · go_simp
                      go_at_call 6
                      refine Calls.mono (PC wz Tz.out) ?_
                      rintro e w5 h5
                      obtain ⟨rfl, b5⟩ := h5.inr
                      have OP5 := hid (OPz.out.next b5)
                      have B5 := hid (nextB Bz.out b5)
                      have D5 := hid (nextB Dz.out b5)
                      clear b5
                      go_wp2_with fail
                      refine hK.out _ _ (OP5.out.four ha5 hb5 hi5 hk5 HNA.out HNB.out HO1.out HO2.out) (fun hX => ?_)
                      clear hK K9 hHeld
                      have hHeld := hX
                      clear hX
                      try simp only [Act.put, List.setIfInBounds_toArray, List.set_cons_zero, List.set_cons_succ]
                      refine take2 rfl (i := 19) (v := .tuple #[.agg #[.string ⟨#[]⟩, .string ⟨#[]⟩, .int .i64 0, .int .i64 0, .int .i64 0, .slice none 0 0], .int .i64 (pa : Nat), .int .i64 7]) (d := 62) rfl rfl (by kernel_rfl) (by kernel_rfl) (by kernel_rfl) (fun _ _ _ h => h) (Or.inl ⟨by rfl, ?_⟩) hHeld ?_
                      · (intro W hW; (try dsimp only at hW); go_simp)
                      try simp only [Act.put, List.setIfInBounds_toArray, List.set_cons_zero, List.set_cons_succ]
                      refine take2 rfl (i := 20) (v := .agg #[.string ⟨#[]⟩, .string ⟨#[]⟩, .int .i64 0, .int .i64 0, .int .i64 0, .slice none 0 0]) (d := 82) rfl rfl (by kernel_rfl) (by kernel_rfl) (by kernel_rfl) (fun _ _ _ h => h) (Or.inl ⟨by rfl, ?_⟩) hHeld ?_
                      · (intro W hW; (try dsimp only at hW); go_simp)
                      try simp only [Act.put, List.setIfInBounds_toArray, List.set_cons_zero, List.set_cons_succ]
                      refine take2 rfl (i := 21) (v := .int .i64 (pa : Nat)) (d := 83) rfl rfl (by kernel_rfl) (by kernel_rfl) (by kernel_rfl) (fun _ _ _ h => h) (Or.inl ⟨by rfl, ?_⟩) hHeld ?_
                      · (intro W hW; (try dsimp only at hW); go_simp)
                      try simp only [Act.put, List.setIfInBounds_toArray, List.set_cons_zero, List.set_cons_succ]
                      refine take2 rfl (i := 22) (v := .int .i64 7) (d := 84) rfl rfl (by kernel_rfl) (by kernel_rfl) (by kernel_rfl) (fun _ _ _ h => h) (Or.inl ⟨by rfl, ?_⟩) hHeld ?_
                      · (intro W hW; (try dsimp only at hW); go_simp)
                      try simp only [Act.put, List.setIfInBounds_toArray, List.set_cons_zero, List.set_cons_succ]
                      refine wpAnyH_ready (rs := [23]) (by kernel_rfl) (by simp) ?_
                      refine cons2 rfl rfl (fun K9 hK => ?_)
                      go_simp
                      have BL7 := hid (show Below w5.heap.size w5 (w5.alloc (.cells #[.string ⟨#[]⟩, .string ⟨#[]⟩, .int .i64 0, .int .i64 0, .int .i64 0, .slice none 0 0] 28)) from (Below.refl _ _).alloc (Nat.le_refl _) _)
                      refine hK.out _ _ ((OP5.out.next BL7.out).four ha5 hb5 hi5 hk5 HNA.out HNB.out HO1.out HO2.out) (fun hX => ?_)
                      clear hK K9 hHeld
                      have hHeld := hX
                      clear hX
                      try simp only [Act.put, List.setIfInBounds_toArray, List.set_cons_zero, List.set_cons_succ]
                      refine wpAnyH_ready (rs := [24]) (by kernel_rfl) (by simp) ?_
                      refine cons2 rfl rfl (fun K9 hK => ?_)
                      go_simp
                      have BL8 := hid (show Below w5.heap.size w5 (w5.alloc (.cells #[.string ⟨#[]⟩, .string ⟨#[]⟩, .int .i64 0, .int .i64 0, .int .i64 0, .slice none 0 0] 28)) from (Below.refl _ _).alloc (Nat.le_refl _) _)
                      have X8 := hid (B6.new w5 28 (.string ⟨#[]⟩) (.string ⟨#[]⟩) (.int .i64 0) (.int .i64 0) (.int .i64 0) (.slice none 0 0))
                      refine hK.out _ _ ((OP5.out.next BL8.out).four ha5 hb5 hi5 hk5 HNA.out HNB.out HO1.out HO2.out) (fun hX => ?_)
                      clear hK K9 hHeld
                      have hHeld := hX
                      clear hX
                      try simp only [Act.put, List.setIfInBounds_toArray, List.set_cons_zero, List.set_cons_succ]
                      refine take2 rfl (i := 25) (v := .int .i64 (pa : Nat)) (d := 11) rfl rfl (by kernel_rfl) (by kernel_rfl) (by kernel_rfl) (fun _ _ _ h => h) (Or.inl ⟨by rfl, ?_⟩) hHeld ?_
                      · (intro W hW; (try dsimp only at hW); go_simp)
                      try simp only [Act.put, List.setIfInBounds_toArray, List.set_cons_zero, List.set_cons_succ]
                      refine take2 rfl (i := 26) (v := .int .i64 7) (d := 12) rfl rfl (by kernel_rfl) (by kernel_rfl) (by kernel_rfl) (fun _ _ _ h => h) (Or.inl ⟨by rfl, ?_⟩) hHeld ?_
                      · (intro W hW; (try dsimp only at hW); go_simp)
                      try simp only [Act.put, List.setIfInBounds_toArray, List.set_cons_zero, List.set_cons_succ]
                      refine wpAnyH_done (by kernel_rfl) ?_ _
                      have B8 := hid (nextB B5.out BL8.out)
                      have O8 := hid (OP5.out.next BL8.out)
                      have T8 := hid (T2.out.next (nextB D5.out BL8.out))

                      clear hHeld BL7 BL8 OP5 B5 D5 OPz Bz Tz Dz
                      generalize World.alloc w5 _ = w8 at *
                      generalize w5.heap.size = q8 at *
                      have q1 : ((a' : Int) == 2) = true := by rw [E1.out]; rfl
                      have q2 : ((b' : Int) == 2) = true := by rw [E2.out]; rfl
                      go_wp2_with fail
                      go_ret
                      exact ⟨rfl, B8.out⟩
                    · go_simp
                      have BL7 := hid (show Below wz.heap.size wz (wz.alloc (.cells #[.string ⟨#[]⟩, .string ⟨#[]⟩, .int .i64 0, .int .i64 0, .int .i64 0, .slice none 0 0] 28)) from (Below.refl _ _).alloc (Nat.le_refl _) _)
                      have X7 := hid (B6.new wz 28 (.string ⟨#[]⟩) (.string ⟨#[]⟩) (.int .i64 0) (.int .i64 0) (.int .i64 0) (.slice none 0 0))
                      have OP7 := hid (OPz.out.next BL7.out)
                      have B7 := hid (nextB Bz.out BL7.out)
                      have T7 := hid (Tz.out.next BL7.out)
                      have D7 := hid (nextB Dz.out BL7.out)
                      have qd : w2.heap.size ≤ wz.heap.size := Dz.out.size
                      have q7 : g + 6 ≤ wz.heap.size := OPz.out.l
                      have qw : w.heap.size ≤ wz.heap.size := Bz.out.size
                      have qn : wz.heap.size < (wz.alloc (.cells #[.string ⟨#[]⟩, .string ⟨#[]⟩, .int .i64 0, .int .i64 0, .int .i64 0, .slice none 0 0] 28)).heap.size := X7.out.lt
                      refine hK.out _ _ (OP7.out.four ha5 hb5 hi5 hk5 HNA.out HNB.out HO1.out HO2.out) (fun hX => ?_)
                      clear hK K9 hHeld
                      have hHeld := hX
                      clear hX
                      try simp only [Act.put, List.setIfInBounds_toArray, List.set_cons_zero, List.set_cons_succ]
                      generalize World.alloc wz _ = wy at *
                      generalize wz.heap.size = q8 at *
                      refine wpAnyH_ready (rs := [18]) (by kernel_rfl) (by simp) ?_
                      refine cons2 rfl rfl (fun K9 hK => ?_)
                      go_simp
                      go_at_call 6
                      refine Calls.mono (PC wy T7.out) ?_
                      rintro e w5 h5
                      obtain ⟨rfl, b5⟩ := h5.inr
                      have OP5 := hid (OP7.out.next b5)
                      have B5 := hid (nextB B7.out b5)
                      have D5 := hid (nextB D7.out b5)
                      have X5 := hid (X7.out.next b5)
                      clear b5
                      go_wp2_with fail
                      refine hK.out _ _ (OP5.out.four ha5 hb5 hi5 hk5 HNA.out HNB.out HO1.out HO2.out) (fun hX => ?_)
                      clear hK K9 hHeld
                      have hHeld := hX
                      clear hX
                      try simp only [Act.put, List.setIfInBounds_toArray, List.set_cons_zero, List.set_cons_succ]
                      refine take2 rfl (i := 19) (v := .tuple #[.agg #[.string ⟨#[]⟩, .string ⟨#[]⟩, .int .i64 0, .int .i64 0, .int .i64 0, .slice none 0 0], .int .i64 (pa : Nat), .int .i64 7]) (d := 62) rfl rfl (by kernel_rfl) (by kernel_rfl) (by kernel_rfl) (fun _ _ _ h => h) (Or.inl ⟨by rfl, ?_⟩) hHeld ?_
                      · (intro W hW; (try dsimp only at hW); go_simp)
                      try simp only [Act.put, List.setIfInBounds_toArray, List.set_cons_zero, List.set_cons_succ]
                      refine take2 rfl (i := 20) (v := .agg #[.string ⟨#[]⟩, .string ⟨#[]⟩, .int .i64 0, .int .i64 0, .int .i64 0, .slice none 0 0]) (d := 82) rfl rfl (by kernel_rfl) (by kernel_rfl) (by kernel_rfl) (fun _ _ _ h => h) (Or.inl ⟨by rfl, ?_⟩) hHeld ?_
                      · (intro W hW; (try dsimp only at hW); go_simp)
                      try simp only [Act.put, List.setIfInBounds_toArray, List.set_cons_zero, List.set_cons_succ]
                      refine take2 rfl (i := 21) (v := .int .i64 (pa : Nat)) (d := 83) rfl rfl (by kernel_rfl) (by kernel_rfl) (by kernel_rfl) (fun _ _ _ h => h) (Or.inl ⟨by rfl, ?_⟩) hHeld ?_
                      · (intro W hW; (try dsimp only at hW); go_simp)
                      try simp only [Act.put, List.setIfInBounds_toArray, List.set_cons_zero, List.set_cons_succ]
                      refine take2 rfl (i := 22) (v := .int .i64 7) (d := 84) rfl rfl (by kernel_rfl) (by kernel_rfl) (by kernel_rfl) (fun _ _ _ h => h) (Or.inl ⟨by rfl, ?_⟩) hHeld ?_
                      · (intro W hW; (try dsimp only at hW); go_simp)
                      try simp only [Act.put, List.setIfInBounds_toArray, List.set_cons_zero, List.set_cons_succ]
                      obtain ⟨j0, j1, j2, j3, j4, j5, jz⟩ := X5.out
                      have X8 := hid (X5.out.sets (.string ⟨#[]⟩) (.string ⟨#[]⟩) (.int .i64 0) (.int .i64 0) (.int .i64 0) (.slice none 0 0))
                      have O8 := hid (OP5.out.set6 q7 (.string ⟨#[]⟩) (.string ⟨#[]⟩) (.int .i64 0) (.int .i64 0) (.int .i64 0) (.slice none 0 0))
                      have B8 := hid (Below.put6 B5.out qw (.string ⟨#[]⟩) (.string ⟨#[]⟩) (.int .i64 0) (.int .i64 0) (.int .i64 0) (.slice none 0 0))
                      have T8 := hid (T2.out.next (Below.put6 D5.out qd (.string ⟨#[]⟩) (.string ⟨#[]⟩) (.int .i64 0) (.int .i64 0) (.int .i64 0) (.slice none 0 0)))

                      refine wpAnyH_ready (rs := [24]) (by kernel_rfl) (by simp) ?_
                      refine cons2 rfl rfl (fun K9 hK => ?_)
                      go_simp
                      refine hK.out _ _ (O8.out.four ha5 hb5 hi5 hk5 HNA.out HNB.out HO1.out HO2.out) (fun hX => ?_)
                      clear hK K9 hHeld
                      have hHeld := hX
                      clear hX
                      try simp only [Act.put, List.setIfInBounds_toArray, List.set_cons_zero, List.set_cons_succ]
                      refine take2 rfl (i := 25) (v := .int .i64 (pa : Nat)) (d := 11) rfl rfl (by kernel_rfl) (by kernel_rfl) (by kernel_rfl) (fun _ _ _ h => h) (Or.inl ⟨by rfl, ?_⟩) hHeld ?_
                      · (intro W hW; (try dsimp only at hW); go_simp)
                      try simp only [Act.put, List.setIfInBounds_toArray, List.set_cons_zero, List.set_cons_succ]
                      refine take2 rfl (i := 26) (v := .int .i64 7) (d := 12) rfl rfl (by kernel_rfl) (by kernel_rfl) (by kernel_rfl) (fun _ _ _ h => h) (Or.inl ⟨by rfl, ?_⟩) hHeld ?_
                      · (intro W hW; (try dsimp only at hW); go_simp)
                      try simp only [Act.put, List.setIfInBounds_toArray, List.set_cons_zero, List.set_cons_succ]
                      refine wpAnyH_done (by kernel_rfl) ?_ _
                      clear hHeld BL7 OP5 B5 D5 OPz Bz Tz Dz X5 X7 OP7 B7 T7 D7 j0 j1 j2 j3 j4 j5 jz
                      generalize World.setCell _ ⟨q8, 5, none⟩ _ = w8 at *
                      have q1 : ((a' : Int) == 2) = true := by rw [E1.out]; rfl
                      have q2 : ((b' : Int) == 2) = true := by rw [E2.out]; rfl
                      go_wp2_with fail
                      go_ret
                      exact ⟨rfl, B8.out⟩
                  · have NE := hid ne
                    have SG := hid sg
                    have SH := hid sh
                    clear ne sg sh
                    go_upto_region 6 with fail
                    refine wp_region_held_drew (S := (fun W => W.cell? ⟨g + 1 + 1 + 1 + 1 + 1, a', none⟩ = some (.slice (some ⟨g + a', 0, none⟩) na na) ∧ W.cell? ⟨g + 1 + 1 + 1 + 1 + 1, b', none⟩ = some (.slice (some ⟨g + b', 0, none⟩) nb nb) ∧ W.cell? ⟨g + a', i', none⟩ = some (.string O1) ∧ W.cell? ⟨g + b', k', none⟩ = some (.string O2))) (by kernel_rfl) ⟨ca, cb, ci, ck⟩ (fun hHeld => ?_)
                    have OPz := hid (OP.out.next (show Below w2.heap.size w2 w2.drew from (Below.refl _ _).drew))
                    have Bz := hid (nextB B2.out (show Below w2.heap.size w2 w2.drew from (Below.refl _ _).drew))
                    have Tz := hid (T2.out.next (show Below w2.heap.size w2 w2.drew from (Below.refl _ _).drew))
                    have Dz := hid (show Below w2.heap.size w2 w2.drew from (Below.refl _ _).drew)
                    generalize w2.drew = wz at *
                    refine take2 rfl (i := 0) (v := .slice (some ⟨g + 1 + 1 + 1 + 1 + 1, 0, none⟩) 5 5) (d := 63) rfl rfl (by kernel_rfl) (by kernel_rfl) (by kernel_rfl) (fun _ _ _ h => h) (Or.inl ⟨by rfl, ?_⟩) hHeld ?_
                    · (intro W hW; (try dsimp only at hW); go_simp)
                    try simp only [Act.put, List.setIfInBounds_toArray, List.set_cons_zero, List.set_cons_succ]
                    refine take2 rfl (i := 1) (v := .int .i64 (a' : Nat)) (d := 64) rfl rfl (by kernel_rfl) (by kernel_rfl) (by kernel_rfl) (fun _ _ _ h => h) (Or.inl ⟨by rfl, ?_⟩) hHeld ?_
                    · (intro W hW; (try dsimp only at hW); go_simp)
                    try simp only [Act.put, List.setIfInBounds_toArray, List.set_cons_zero, List.set_cons_succ]
                    refine take2 rfl (i := 2) (v := .pointer (some ⟨g + 1 + 1 + 1 + 1 + 1, a', none⟩)) (d := 65) rfl rfl (by kernel_rfl) (by kernel_rfl) (by kernel_rfl) (fun _ _ _ h => h) (Or.inl ⟨by rfl, ?_⟩) hHeld ?_
                    · (intro W hW; (try dsimp only at hW); go_simp)
                    try simp only [Act.put, List.setIfInBounds_toArray, List.set_cons_zero, List.set_cons_succ]
                    refine take2 rfl (i := 3) (v := .slice (some ⟨g + a', 0, none⟩) na na) (d := 66) rfl rfl (by kernel_rfl) (by kernel_rfl) (by kernel_rfl) (fun _ _ _ h => h) (Or.inl ⟨by rfl, ?_⟩) hHeld ?_
                    · (intro W hW; (try dsimp only at hW); go_simp)
                    try simp only [Act.put, List.setIfInBounds_toArray, List.set_cons_zero, List.set_cons_succ]
                    refine take2 rfl (i := 4) (v := .int .i64 (i' : Nat)) (d := 67) rfl rfl (by kernel_rfl) (by kernel_rfl) (by kernel_rfl) (fun _ _ _ h => h) (Or.inl ⟨by rfl, ?_⟩) hHeld ?_
                    · (intro W hW; (try dsimp only at hW); go_simp)
                    try simp only [Act.put, List.setIfInBounds_toArray, List.set_cons_zero, List.set_cons_succ]
                    refine take2 rfl (i := 5) (v := .pointer (some ⟨g + a', i', none⟩)) (d := 68) rfl rfl (by kernel_rfl) (by kernel_rfl) (by kernel_rfl) (fun _ _ _ h => h) (Or.inl ⟨by rfl, ?_⟩) hHeld ?_
                    · (intro W hW; (try dsimp only at hW); go_simp)
                    try simp only [Act.put, List.setIfInBounds_toArray, List.set_cons_zero, List.set_cons_succ]
                    refine take2 rfl (i := 6) (v := .string O1) (d := 69) rfl rfl (by kernel_rfl) (by kernel_rfl) (by kernel_rfl) (fun _ _ _ h => h) (Or.inl ⟨by rfl, ?_⟩) hHeld ?_
                    · (intro W hW; (try dsimp only at hW); go_simp)
                    try simp only [Act.put, List.setIfInBounds_toArray, List.set_cons_zero, List.set_cons_succ]
                    refine take2 rfl (i := 7) (v := .string (⟨#[114, 117, 108, 101, 32, 114, 32, 98, 111, 111, 108, 32, 61, 32, 120, 32]⟩ ++ O1)) (d := 70) rfl rfl (by kernel_rfl) (by kernel_rfl) (by kernel_rfl) (fun _ _ _ h => h) (Or.inl ⟨by rfl, ?_⟩) hHeld ?_
                    · (intro W hW; (try dsimp only at hW); go_simp)
                    try simp only [Act.put, List.setIfInBounds_toArray, List.set_cons_zero, List.set_cons_succ]
                    refine take2 rfl (i := 8) (v := .string ((⟨#[114, 117, 108, 101, 32, 114, 32, 98, 111, 111, 108, 32, 61, 32, 120, 32]⟩ ++ O1) ++ ⟨#[32, 121, 32]⟩)) (d := 71) rfl rfl (by kernel_rfl) (by kernel_rfl) (by kernel_rfl) (fun _ _ _ h => h) (Or.inl ⟨by rfl, ?_⟩) hHeld ?_
                    · (intro W hW; (try dsimp only at hW); go_simp)
                    try simp only [Act.put, List.setIfInBounds_toArray, List.set_cons_zero, List.set_cons_succ]
                    refine take2 rfl (i := 9) (v := .slice (some ⟨g + 1 + 1 + 1 + 1 + 1, 0, none⟩) 5 5) (d := 72) rfl rfl (by kernel_rfl) (by kernel_rfl) (by kernel_rfl) (fun _ _ _ h => h) (Or.inl ⟨by rfl, ?_⟩) hHeld ?_
                    · (intro W hW; (try dsimp only at hW); go_simp)
                    try simp only [Act.put, List.setIfInBounds_toArray, List.set_cons_zero, List.set_cons_succ]
                    refine take2 rfl (i := 10) (v := .int .i64 (b' : Nat)) (d := 73) rfl rfl (by kernel_rfl) (by kernel_rfl) (by kernel_rfl) (fun _ _ _ h => h) (Or.inl ⟨by rfl, ?_⟩) hHeld ?_
                    · (intro W hW; (try dsimp only at hW); go_simp)
                    try simp only [Act.put, List.setIfInBounds_toArray, List.set_cons_zero, List.set_cons_succ]
                    refine take2 rfl (i := 11) (v := .pointer (some ⟨g + 1 + 1 + 1 + 1 + 1, b', none⟩)) (d := 74) rfl rfl (by kernel_rfl) (by kernel_rfl) (by kernel_rfl) (fun _ _ _ h => h) (Or.inl ⟨by rfl, ?_⟩) hHeld ?_
                    · (intro W hW; (try dsimp only at hW); go_simp)
                    try simp only [Act.put, List.setIfInBounds_toArray, List.set_cons_zero, List.set_cons_succ]
                    refine take2 rfl (i := 12) (v := .slice (some ⟨g + b', 0, none⟩) nb nb) (d := 75) rfl rfl (by kernel_rfl) (by kernel_rfl) (by kernel_rfl) (fun _ _ _ h => h) (Or.inl ⟨by rfl, ?_⟩) hHeld ?_
                    · (intro W hW; (try dsimp only at hW); go_simp)
                    try simp only [Act.put, List.setIfInBounds_toArray, List.set_cons_zero, List.set_cons_succ]
                    refine take2 rfl (i := 13) (v := .int .i64 (k' : Nat)) (d := 76) rfl rfl (by kernel_rfl) (by kernel_rfl) (by kernel_rfl) (fun _ _ _ h => h) (Or.inl ⟨by rfl, ?_⟩) hHeld ?_
                    · (intro W hW; (try dsimp only at hW); go_simp)
                    try simp only [Act.put, List.setIfInBounds_toArray, List.set_cons_zero, List.set_cons_succ]
                    refine take2 rfl (i := 14) (v := .pointer (some ⟨g + b', k', none⟩)) (d := 77) rfl rfl (by kernel_rfl) (by kernel_rfl) (by kernel_rfl) (fun _ _ _ h => h) (Or.inl ⟨by rfl, ?_⟩) hHeld ?_
                    · (intro W hW; (try dsimp only at hW); go_simp)
                    try simp only [Act.put, List.setIfInBounds_toArray, List.set_cons_zero, List.set_cons_succ]
                    refine take2 rfl (i := 15) (v := .string O2) (d := 78) rfl rfl (by kernel_rfl) (by kernel_rfl) (by kernel_rfl) (fun _ _ _ h => h) (Or.inl ⟨by rfl, ?_⟩) hHeld ?_
                    · (intro W hW; (try dsimp only at hW); go_simp)
                    try simp only [Act.put, List.setIfInBounds_toArray, List.set_cons_zero, List.set_cons_succ]
                    refine take2 rfl (i := 16) (v := .string (((⟨#[114, 117, 108, 101, 32, 114, 32, 98, 111, 111, 108, 32, 61, 32, 120, 32]⟩ ++ O1) ++ ⟨#[32, 121, 32]⟩) ++ O2)) (d := 79) rfl rfl (by kernel_rfl) (by kernel_rfl) (by kernel_rfl) (fun _ _ _ h => h) (Or.inl ⟨by rfl, ?_⟩) hHeld ?_
                    · (intro W hW; (try dsimp only at hW); go_simp)
                    try simp only [Act.put, List.setIfInBounds_toArray, List.set_cons_zero, List.set_cons_succ]
                    refine take2 rfl (i := 17) (v := .string ((((⟨#[114, 117, 108, 101, 32, 114, 32, 98, 111, 111, 108, 32, 61, 32, 120, 32]⟩ ++ O1) ++ ⟨#[32, 121, 32]⟩) ++ O2) ++ ⟨#[32, 122, 59]⟩)) (d := 80) rfl rfl (by kernel_rfl) (by kernel_rfl) (by kernel_rfl) (fun _ _ _ h => h) (Or.inl ⟨by rfl, ?_⟩) hHeld ?_
                    · (intro W hW; (try dsimp only at hW); go_simp)
                    try simp only [Act.put, List.setIfInBounds_toArray, List.set_cons_zero, List.set_cons_succ]
                    refine wpAnyH_ready (rs := [18, 23]) (by kernel_rfl) (by simp) ?_
                    refine cons22 rfl rfl rfl (fun K9 hK => ?_) (fun K9 hK => ?_)
                    · go_simp
                      go_at_call 6
                      refine Calls.mono (PC wz Tz.out) ?_
                      rintro e w5 h5
                      obtain ⟨sa, sm, sc, rfl, n5, b5⟩ := h5.inl
                      have N5 := hid n5
                      clear n5
                      have OP5 := hid (OPz.out.next b5)
                      have B5 := hid (nextB Bz.out b5)
                      have D5 := hid (nextB Dz.out b5)
                      clear b5
                      go_wp2_with fail
                      refine hK.out _ _ (OP5.out.four ha5 hb5 hi5 hk5 HNA.out HNB.out HO1.out HO2.out) (fun hX => ?_)
                      clear hK K9 hHeld
                      have hHeld := hX
                      clear hX
                      try simp only [Act.put, List.setIfInBounds_toArray, List.set_cons_zero, List.set_cons_succ]
                      refine take2 rfl (i := 19) (v := .tuple #[.agg #[.string t.op, .string t.name, .int .i64 (t.kind : Nat), .int .i64 t.n, .int .i64 (t.pl : Nat), .slice sa sm sc], .int .i64 0, .int .i64 0]) (d := 62) rfl rfl (by kernel_rfl) (by kernel_rfl) (by kernel_rfl) (fun _ _ _ h => h) (Or.inl ⟨by rfl, ?_⟩) hHeld ?_
                      · (intro W hW; (try dsimp only at hW); go_simp)
                      try simp only [Act.put, List.setIfInBounds_toArray, List.set_cons_zero, List.set_cons_succ]
                      refine take2 rfl (i := 20) (v := .agg #[.string t.op, .string t.name, .int .i64 (t.kind : Nat), .int .i64 t.n, .int .i64 (t.pl : Nat), .slice sa sm sc]) (d := 82) rfl rfl (by kernel_rfl) (by kernel_rfl) (by kernel_rfl) (fun _ _ _ h => h) (Or.inl ⟨by rfl, ?_⟩) hHeld ?_
                      · (intro W hW; (try dsimp only at hW); go_simp)
                      try simp only [Act.put, List.setIfInBounds_toArray, List.set_cons_zero, List.set_cons_succ]
                      refine take2 rfl (i := 21) (v := .int .i64 0) (d := 83) rfl rfl (by kernel_rfl) (by kernel_rfl) (by kernel_rfl) (fun _ _ _ h => h) (Or.inl ⟨by rfl, ?_⟩) hHeld ?_
                      · (intro W hW; (try dsimp only at hW); go_simp)
                      try simp only [Act.put, List.setIfInBounds_toArray, List.set_cons_zero, List.set_cons_succ]
                      refine take2 rfl (i := 22) (v := .int .i64 0) (d := 84) rfl rfl (by kernel_rfl) (by kernel_rfl) (by kernel_rfl) (fun _ _ _ h => h) (Or.inl ⟨by rfl, ?_⟩) hHeld ?_
                      · (intro W hW; (try dsimp only at hW); go_simp)
                      try simp only [Act.put, List.setIfInBounds_toArray, List.set_cons_zero, List.set_cons_succ]
                      refine wpAnyH_ready (rs := [23]) (by kernel_rfl) (by simp) ?_
                      refine cons2 rfl rfl (fun K9 hK => ?_)
                      go_simp
                      have BL7 := hid (show Below w5.heap.size w5 (w5.alloc (.cells #[.string ⟨#[]⟩, .string ⟨#[]⟩, .int .i64 0, .int .i64 0, .int .i64 0, .slice none 0 0] 28)) from (Below.refl _ _).alloc (Nat.le_refl _) _)
                      refine hK.out _ _ ((OP5.out.next BL7.out).four ha5 hb5 hi5 hk5 HNA.out HNB.out HO1.out HO2.out) (fun hX => ?_)
                      clear hK K9 hHeld
                      have hHeld := hX
                      clear hX
                      try simp only [Act.put, List.setIfInBounds_toArray, List.set_cons_zero, List.set_cons_succ]
                      refine wpAnyH_ready (rs := [24]) (by kernel_rfl) (by simp) ?_
                      refine cons2 rfl rfl (fun K9 hK => ?_)
                      go_simp
                      have BL8 := hid (show Below w5.heap.size w5 (w5.alloc (.cells #[.string t.op, .string t.name, .int .i64 (t.kind : Nat), .int .i64 t.n, .int .i64 (t.pl : Nat), .slice sa sm sc] 28)) from (Below.refl _ _).alloc (Nat.le_refl _) _)
                      have X8 := hid (B6.new w5 28 (.string t.op) (.string t.name) (.int .i64 (t.kind : Nat)) (.int .i64 t.n) (.int .i64 (t.pl : Nat)) (.slice sa sm sc))
                      refine hK.out _ _ ((OP5.out.next BL8.out).four ha5 hb5 hi5 hk5 HNA.out HNB.out HO1.out HO2.out) (fun hX => ?_)
                      clear hK K9 hHeld
                      have hHeld := hX
                      clear hX
                      try simp only [Act.put, List.setIfInBounds_toArray, List.set_cons_zero, List.set_cons_succ]
                      refine take2 rfl (i := 25) (v := .int .i64 0) (d := 11) rfl rfl (by kernel_rfl) (by kernel_rfl) (by kernel_rfl) (fun _ _ _ h => h) (Or.inl ⟨by rfl, ?_⟩) hHeld ?_
                      · (intro W hW; (try dsimp only at hW); go_simp)
                      try simp only [Act.put, List.setIfInBounds_toArray, List.set_cons_zero, List.set_cons_succ]
                      refine take2 rfl (i := 26) (v := .int .i64 0) (d := 12) rfl rfl (by kernel_rfl) (by kernel_rfl) (by kernel_rfl) (fun _ _ _ h => h) (Or.inl ⟨by rfl, ?_⟩) hHeld ?_
                      · (intro W hW; (try dsimp only at hW); go_simp)
                      try simp only [Act.put, List.setIfInBounds_toArray, List.set_cons_zero, List.set_cons_succ]
                      refine wpAnyH_done (by kernel_rfl) ?_ _
                      have B8 := hid (nextB B5.out BL8.out)
                      have O8 := hid (OP5.out.next BL8.out)
                      have T8 := hid (T2.out.next (nextB D5.out BL8.out))
                      have N8 := hid (N5.out.next BL8.out)
                      clear hHeld BL7 BL8 OP5 B5 D5 OPz Bz Tz Dz
                      generalize World.alloc w5 _ = w8 at *
                      generalize w5.heap.size = q8 at *
                      by_cases ba : b' ≤ a'
                      · have ba' : (b' : Int) ≤ (a' : Int) := by omega
                        by_cases x2' : a' = 2
                        · have q1 : ((a' : Int) == 2) = true := by rw [x2']; rfl
                          have q2 : ((b' : Int) == 2) = false := by rw [beq_eq_false_iff_ne]; intro z; exact NE.out ⟨x2', by omega⟩
                          clear x2'
                          obtain ⟨ca8, cb8, ci8, ck8⟩ := O8.out.four ha5 hb5 hi5 hk5 HNA.out HNB.out HO1.out HO2.out
                          go_upto_region 9 with fail
                          go_quiet (fail)
                          have BQ := hid (drewN_below w8 nq)
                          replace O8 := hid (O8.out.next BQ.out)
                          replace B8 := hid (nextB B8.out BQ.out)
                          replace T8 := hid (T8.out.next BQ.out)
                          replace N8 := hid (N8.out.any BQ.out)
                          replace X8 := hid (X8.out.next BQ.out)
                          clear ca8 cb8 ci8 ck8 BQ
                          generalize w8.drewN nq = w9 at *
                          clear nq
                          obtain ⟨ca8, cb8, ci8, ck8⟩ := O8.out.four ha5 hb5 hi5 hk5 HNA.out HNB.out HO1.out HO2.out
                          go_upto_region 11 with fail
                          go_quiet (fail)
                          have BQ := hid (drewN_below w9 nq)
                          replace O8 := hid (O8.out.next BQ.out)
                          replace B8 := hid (nextB B8.out BQ.out)
                          replace T8 := hid (T8.out.next BQ.out)
                          replace N8 := hid (N8.out.any BQ.out)
                          replace X8 := hid (X8.out.next BQ.out)
                          clear ca8 cb8 ci8 ck8 BQ
                          generalize w9.drewN nq = w10 at *
                          clear nq
                          have SK := hid (show Calls Tryd.prog 7 #[.agg #[.string t.op, .string t.name, .int .i64 (t.kind : Nat), .int .i64 t.n, .int .i64 (t.pl : Nat), .slice sa sm sc]] w10 (fun e w' => e = .returned (.string ((((⟨#[114, 117, 108, 101, 32, 114, 32, 98, 111, 111, 108, 32, 61, 32, 40, 40, 120, 32]⟩ ++ O1) ++ ⟨#[32, 121, 41, 32]⟩) ++ O2) ++ ⟨#[32, 122, 41, 59, 10]⟩)) ∧ Below w10.heap.size w10 w') from by
                            have := Show_any t w10 sa sm sc _ N8.out (fun B h => sg_of t SG.out B (Nat.lt_of_lt_of_le T8.out.kt.1 h)) T8.out.pw T8.out.kt (by rw [SH.out, if_pos ba, wg_len]; omega) (by rw [SH.out, if_pos ba, wg_len]; omega)
                            rw [SH.out, if_pos ba] at this
                            exact this)
                          obtain ⟨x0, x1, x2, x3, x4, x5, xz⟩ := X8.out
                          go_wp2_with (go_at_call 7; with_reducible refine Calls.mono SK.out ?_; rintro e w11 ⟨rfl, b11⟩)
                          go_ret
                          exact ⟨rfl, nextB B8.out b11⟩
                        · have q1 : ((a' : Int) == 2) = false := by rw [beq_eq_false_iff_ne]; omega
                          clear x2'
                          obtain ⟨ca8, cb8, ci8, ck8⟩ := O8.out.four ha5 hb5 hi5 hk5 HNA.out HNB.out HO1.out HO2.out
                          go_upto_region 9 with fail
                          go_quiet (fail)
                          have BQ := hid (drewN_below w8 nq)
                          replace O8 := hid (O8.out.next BQ.out)
                          replace B8 := hid (nextB B8.out BQ.out)
                          replace T8 := hid (T8.out.next BQ.out)
                          replace N8 := hid (N8.out.any BQ.out)
                          replace X8 := hid (X8.out.next BQ.out)
                          clear ca8 cb8 ci8 ck8 BQ
                          generalize w8.drewN nq = w9 at *
                          clear nq
                          obtain ⟨ca8, cb8, ci8, ck8⟩ := O8.out.four ha5 hb5 hi5 hk5 HNA.out HNB.out HO1.out HO2.out
                          go_upto_region 11 with fail
                          go_quiet (fail)
                          have BQ := hid (drewN_below w9 nq)
                          replace O8 := hid (O8.out.next BQ.out)
                          replace B8 := hid (nextB B8.out BQ.out)
                          replace T8 := hid (T8.out.next BQ.out)
                          replace N8 := hid (N8.out.any BQ.out)
                          replace X8 := hid (X8.out.next BQ.out)
                          clear ca8 cb8 ci8 ck8 BQ
                          generalize w9.drewN nq = w10 at *
                          clear nq
                          have SK := hid (show Calls Tryd.prog 7 #[.agg #[.string t.op, .string t.name, .int .i64 (t.kind : Nat), .int .i64 t.n, .int .i64 (t.pl : Nat), .slice sa sm sc]] w10 (fun e w' => e = .returned (.string ((((⟨#[114, 117, 108, 101, 32, 114, 32, 98, 111, 111, 108, 32, 61, 32, 40, 40, 120, 32]⟩ ++ O1) ++ ⟨#[32, 121, 41, 32]⟩) ++ O2) ++ ⟨#[32, 122, 41, 59, 10]⟩)) ∧ Below w10.heap.size w10 w') from by
                            have := Show_any t w10 sa sm sc _ N8.out (fun B h => sg_of t SG.out B (Nat.lt_of_lt_of_le T8.out.kt.1 h)) T8.out.pw T8.out.kt (by rw [SH.out, if_pos ba, wg_len]; omega) (by rw [SH.out, if_pos ba, wg_len]; omega)
                            rw [SH.out, if_pos ba] at this
                            exact this)
                          obtain ⟨x0, x1, x2, x3, x4, x5, xz⟩ := X8.out
                          go_wp2_with (go_at_call 7; with_reducible refine Calls.mono SK.out ?_; rintro e w11 ⟨rfl, b11⟩)
                          go_ret
                          exact ⟨rfl, nextB B8.out b11⟩
                      · have ba' : ¬ (b' : Int) ≤ (a' : Int) := by omega
                        by_cases x2' : a' = 2
                        · have q1 : ((a' : Int) == 2) = true := by rw [x2']; rfl
                          have q2 : ((b' : Int) == 2) = false := by rw [beq_eq_false_iff_ne]; intro z; exact NE.out ⟨x2', by omega⟩
                          clear x2'
                          obtain ⟨ca8, cb8, ci8, ck8⟩ := O8.out.four ha5 hb5 hi5 hk5 HNA.out HNB.out HO1.out HO2.out
                          go_upto_region 9 with fail
                          go_quiet (fail)
                          have BQ := hid (drewN_below w8 nq)
                          replace O8 := hid (O8.out.next BQ.out)
                          replace B8 := hid (nextB B8.out BQ.out)
                          replace T8 := hid (T8.out.next BQ.out)
                          replace N8 := hid (N8.out.any BQ.out)
                          replace X8 := hid (X8.out.next BQ.out)
                          clear ca8 cb8 ci8 ck8 BQ
                          generalize w8.drewN nq = w9 at *
                          clear nq
                          have SK := hid (show Calls Tryd.prog 7 #[.agg #[.string t.op, .string t.name, .int .i64 (t.kind : Nat), .int .i64 t.n, .int .i64 (t.pl : Nat), .slice sa sm sc]] w9 (fun e w' => e = .returned (.string ((((⟨#[114, 117, 108, 101, 32, 114, 32, 98, 111, 111, 108, 32, 61, 32, 40, 120, 32]⟩ ++ O1) ++ ⟨#[32, 40, 121, 32]⟩) ++ O2) ++ ⟨#[32, 122, 41, 41, 59, 10]⟩)) ∧ Below w9.heap.size w9 w') from by
                            have := Show_any t w9 sa sm sc _ N8.out (fun B h => sg_of t SG.out B (Nat.lt_of_lt_of_le T8.out.kt.1 h)) T8.out.pw T8.out.kt (by rw [SH.out, if_neg ba, wl_len]; omega) (by rw [SH.out, if_neg ba, wl_len]; omega)
                            rw [SH.out, if_neg ba] at this
                            exact this)
                          obtain ⟨x0, x1, x2, x3, x4, x5, xz⟩ := X8.out
                          go_wp2_with (go_at_call 7; with_reducible refine Calls.mono SK.out ?_; rintro e w11 ⟨rfl, b11⟩)
                          go_ret
                          exact ⟨rfl, nextB B8.out b11⟩
                        · have q1 : ((a' : Int) == 2) = false := by rw [beq_eq_false_iff_ne]; omega
                          clear x2'
                          obtain ⟨ca8, cb8, ci8, ck8⟩ := O8.out.four ha5 hb5 hi5 hk5 HNA.out HNB.out HO1.out HO2.out
                          go_upto_region 9 with fail
                          go_quiet (fail)
                          have BQ := hid (drewN_below w8 nq)
                          replace O8 := hid (O8.out.next BQ.out)
                          replace B8 := hid (nextB B8.out BQ.out)
                          replace T8 := hid (T8.out.next BQ.out)
                          replace N8 := hid (N8.out.any BQ.out)
                          replace X8 := hid (X8.out.next BQ.out)
                          clear ca8 cb8 ci8 ck8 BQ
                          generalize w8.drewN nq = w9 at *
                          clear nq
                          have SK := hid (show Calls Tryd.prog 7 #[.agg #[.string t.op, .string t.name, .int .i64 (t.kind : Nat), .int .i64 t.n, .int .i64 (t.pl : Nat), .slice sa sm sc]] w9 (fun e w' => e = .returned (.string ((((⟨#[114, 117, 108, 101, 32, 114, 32, 98, 111, 111, 108, 32, 61, 32, 40, 120, 32]⟩ ++ O1) ++ ⟨#[32, 40, 121, 32]⟩) ++ O2) ++ ⟨#[32, 122, 41, 41, 59, 10]⟩)) ∧ Below w9.heap.size w9 w') from by
                            have := Show_any t w9 sa sm sc _ N8.out (fun B h => sg_of t SG.out B (Nat.lt_of_lt_of_le T8.out.kt.1 h)) T8.out.pw T8.out.kt (by rw [SH.out, if_neg ba, wl_len]; omega) (by rw [SH.out, if_neg ba, wl_len]; omega)
                            rw [SH.out, if_neg ba] at this
                            exact this)
                          obtain ⟨x0, x1, x2, x3, x4, x5, xz⟩ := X8.out
                          go_wp2_with (go_at_call 7; with_reducible refine Calls.mono SK.out ?_; rintro e w11 ⟨rfl, b11⟩)
                          go_ret
                          exact ⟨rfl, nextB B8.out b11⟩
                    · go_simp
                      have BL7 := hid (show Below wz.heap.size wz (wz.alloc (.cells #[.string ⟨#[]⟩, .string ⟨#[]⟩, .int .i64 0, .int .i64 0, .int .i64 0, .slice none 0 0] 28)) from (Below.refl _ _).alloc (Nat.le_refl _) _)
                      have X7 := hid (B6.new wz 28 (.string ⟨#[]⟩) (.string ⟨#[]⟩) (.int .i64 0) (.int .i64 0) (.int .i64 0) (.slice none 0 0))
                      have OP7 := hid (OPz.out.next BL7.out)
                      have B7 := hid (nextB Bz.out BL7.out)
                      have T7 := hid (Tz.out.next BL7.out)
                      have D7 := hid (nextB Dz.out BL7.out)
                      have qd : w2.heap.size ≤ wz.heap.size := Dz.out.size
                      have q7 : g + 6 ≤ wz.heap.size := OPz.out.l
                      have qw : w.heap.size ≤ wz.heap.size := Bz.out.size
                      have qn : wz.heap.size < (wz.alloc (.cells #[.string ⟨#[]⟩, .string ⟨#[]⟩, .int .i64 0, .int .i64 0, .int .i64 0, .slice none 0 0] 28)).heap.size := X7.out.lt
                      refine hK.out _ _ (OP7.out.four ha5 hb5 hi5 hk5 HNA.out HNB.out HO1.out HO2.out) (fun hX => ?_)
                      clear hK K9 hHeld
                      have hHeld := hX
                      clear hX
                      try simp only [Act.put, List.setIfInBounds_toArray, List.set_cons_zero, List.set_cons_succ]
                      generalize World.alloc wz _ = wy at *
                      generalize wz.heap.size = q8 at *
                      refine wpAnyH_ready (rs := [18]) (by kernel_rfl) (by simp) ?_
                      refine cons2 rfl rfl (fun K9 hK => ?_)
                      go_simp
                      go_at_call 6
                      refine Calls.mono (PC wy T7.out) ?_
                      rintro e w5 h5
                      obtain ⟨sa, sm, sc, rfl, n5, b5⟩ := h5.inl
                      have N5 := hid n5
                      clear n5
                      have OP5 := hid (OP7.out.next b5)
                      have B5 := hid (nextB B7.out b5)
                      have D5 := hid (nextB D7.out b5)
                      have X5 := hid (X7.out.next b5)
                      clear b5
                      go_wp2_with fail
                      refine hK.out _ _ (OP5.out.four ha5 hb5 hi5 hk5 HNA.out HNB.out HO1.out HO2.out) (fun hX => ?_)
                      clear hK K9 hHeld
                      have hHeld := hX
                      clear hX
                      try simp only [Act.put, List.setIfInBounds_toArray, List.set_cons_zero, List.set_cons_succ]
                      refine take2 rfl (i := 19) (v := .tuple #[.agg #[.string t.op, .string t.name, .int .i64 (t.kind : Nat), .int .i64 t.n, .int .i64 (t.pl : Nat), .slice sa sm sc], .int .i64 0, .int .i64 0]) (d := 62) rfl rfl (by kernel_rfl) (by kernel_rfl) (by kernel_rfl) (fun _ _ _ h => h) (Or.inl ⟨by rfl, ?_⟩) hHeld ?_
                      · (intro W hW; (try dsimp only at hW); go_simp)
                      try simp only [Act.put, List.setIfInBounds_toArray, List.set_cons_zero, List.set_cons_succ]
                      refine take2 rfl (i := 20) (v := .agg #[.string t.op, .string t.name, .int .i64 (t.kind : Nat), .int .i64 t.n, .int .i64 (t.pl : Nat), .slice sa sm sc]) (d := 82) rfl rfl (by kernel_rfl) (by kernel_rfl) (by kernel_rfl) (fun _ _ _ h => h) (Or.inl ⟨by rfl, ?_⟩) hHeld ?_
                      · (intro W hW; (try dsimp only at hW); go_simp)
                      try simp only [Act.put, List.setIfInBounds_toArray, List.set_cons_zero, List.set_cons_succ]
                      refine take2 rfl (i := 21) (v := .int .i64 0) (d := 83) rfl rfl (by kernel_rfl) (by kernel_rfl) (by kernel_rfl) (fun _ _ _ h => h) (Or.inl ⟨by rfl, ?_⟩) hHeld ?_
                      · (intro W hW; (try dsimp only at hW); go_simp)
                      try simp only [Act.put, List.setIfInBounds_toArray, List.set_cons_zero, List.set_cons_succ]
                      refine take2 rfl (i := 22) (v := .int .i64 0) (d := 84) rfl rfl (by kernel_rfl) (by kernel_rfl) (by kernel_rfl) (fun _ _ _ h => h) (Or.inl ⟨by rfl, ?_⟩) hHeld ?_
                      · (intro W hW; (try dsimp only at hW); go_simp)
                      try simp only [Act.put, List.setIfInBounds_toArray, List.set_cons_zero, List.set_cons_succ]
                      obtain ⟨j0, j1, j2, j3, j4, j5, jz⟩ := X5.out
                      have X8 := hid (X5.out.sets (.string t.op) (.string t.name) (.int .i64 (t.kind : Nat)) (.int .i64 t.n) (.int .i64 (t.pl : Nat)) (.slice sa sm sc))
                      have O8 := hid (OP5.out.set6 q7 (.string t.op) (.string t.name) (.int .i64 (t.kind : Nat)) (.int .i64 t.n) (.int .i64 (t.pl : Nat)) (.slice sa sm sc))
                      have B8 := hid (Below.put6 B5.out qw (.string t.op) (.string t.name) (.int .i64 (t.kind : Nat)) (.int .i64 t.n) (.int .i64 (t.pl : Nat)) (.slice sa sm sc))
                      have T8 := hid (T2.out.next (Below.put6 D5.out qd (.string t.op) (.string t.name) (.int .i64 (t.kind : Nat)) (.int .i64 t.n) (.int .i64 (t.pl : Nat)) (.slice sa sm sc)))
                      have N8 := hid (N5.out.put6w (q := q8) (m := w.heap.size) (by omega) (.string t.op) (.string t.name) (.int .i64 (t.kind : Nat)) (.int .i64 t.n) (.int .i64 (t.pl : Nat)) (.slice sa sm sc))
                      refine wpAnyH_ready (rs := [24]) (by kernel_rfl) (by simp) ?_
                      refine cons2 rfl rfl (fun K9 hK => ?_)
                      go_simp
                      refine hK.out _ _ (O8.out.four ha5 hb5 hi5 hk5 HNA.out HNB.out HO1.out HO2.out) (fun hX => ?_)
                      clear hK K9 hHeld
                      have hHeld := hX
                      clear hX
                      try simp only [Act.put, List.setIfInBounds_toArray, List.set_cons_zero, List.set_cons_succ]
                      refine take2 rfl (i := 25) (v := .int .i64 0) (d := 11) rfl rfl (by kernel_rfl) (by kernel_rfl) (by kernel_rfl) (fun _ _ _ h => h) (Or.inl ⟨by rfl, ?_⟩) hHeld ?_
                      · (intro W hW; (try dsimp only at hW); go_simp)
                      try simp only [Act.put, List.setIfInBounds_toArray, List.set_cons_zero, List.set_cons_succ]
                      refine take2 rfl (i := 26) (v := .int .i64 0) (d := 12) rfl rfl (by kernel_rfl) (by kernel_rfl) (by kernel_rfl) (fun _ _ _ h => h) (Or.inl ⟨by rfl, ?_⟩) hHeld ?_
                      · (intro W hW; (try dsimp only at hW); go_simp)
                      try simp only [Act.put, List.setIfInBounds_toArray, List.set_cons_zero, List.set_cons_succ]
                      refine wpAnyH_done (by kernel_rfl) ?_ _
                      clear hHeld BL7 OP5 B5 D5 OPz Bz Tz Dz X5 X7 OP7 B7 T7 D7 j0 j1 j2 j3 j4 j5 jz
                      generalize World.setCell _ ⟨q8, 5, none⟩ _ = w8 at *
                      by_cases ba : b' ≤ a'
                      · have ba' : (b' : Int) ≤ (a' : Int) := by omega
                        by_cases x2' : a' = 2
                        · have q1 : ((a' : Int) == 2) = true := by rw [x2']; rfl
                          have q2 : ((b' : Int) == 2) = false := by rw [beq_eq_false_iff_ne]; intro z; exact NE.out ⟨x2', by omega⟩
                          clear x2'
                          obtain ⟨ca8, cb8, ci8, ck8⟩ := O8.out.four ha5 hb5 hi5 hk5 HNA.out HNB.out HO1.out HO2.out
                          go_upto_region 9 with fail
                          go_quiet (fail)
                          have BQ := hid (drewN_below w8 nq)
                          replace O8 := hid (O8.out.next BQ.out)
                          replace B8 := hid (nextB B8.out BQ.out)
                          replace T8 := hid (T8.out.next BQ.out)
                          replace N8 := hid (N8.out.any BQ.out)
                          replace X8 := hid (X8.out.next BQ.out)
                          clear ca8 cb8 ci8 ck8 BQ
                          generalize w8.drewN nq = w9 at *
                          clear nq
                          obtain ⟨ca8, cb8, ci8, ck8⟩ := O8.out.four ha5 hb5 hi5 hk5 HNA.out HNB.out HO1.out HO2.out
                          go_upto_region 11 with fail
                          go_quiet (fail)
                          have BQ := hid (drewN_below w9 nq)
                          replace O8 := hid (O8.out.next BQ.out)
                          replace B8 := hid (nextB B8.out BQ.out)
                          replace T8 := hid (T8.out.next BQ.out)
                          replace N8 := hid (N8.out.any BQ.out)
                          replace X8 := hid (X8.out.next BQ.out)
                          clear ca8 cb8 ci8 ck8 BQ
                          generalize w9.drewN nq = w10 at *
                          clear nq
                          have SK := hid (show Calls Tryd.prog 7 #[.agg #[.string t.op, .string t.name, .int .i64 (t.kind : Nat), .int .i64 t.n, .int .i64 (t.pl : Nat), .slice sa sm sc]] w10 (fun e w' => e = .returned (.string ((((⟨#[114, 117, 108, 101, 32, 114, 32, 98, 111, 111, 108, 32, 61, 32, 40, 40, 120, 32]⟩ ++ O1) ++ ⟨#[32, 121, 41, 32]⟩) ++ O2) ++ ⟨#[32, 122, 41, 59, 10]⟩)) ∧ Below w10.heap.size w10 w') from by
                            have := Show_any t w10 sa sm sc _ N8.out (fun B h => sg_of t SG.out B (Nat.lt_of_lt_of_le T8.out.kt.1 h)) T8.out.pw T8.out.kt (by rw [SH.out, if_pos ba, wg_len]; omega) (by rw [SH.out, if_pos ba, wg_len]; omega)
                            rw [SH.out, if_pos ba] at this
                            exact this)
                          obtain ⟨x0, x1, x2, x3, x4, x5, xz⟩ := X8.out
                          go_wp2_with (go_at_call 7; with_reducible refine Calls.mono SK.out ?_; rintro e w11 ⟨rfl, b11⟩)
                          go_ret
                          exact ⟨rfl, nextB B8.out b11⟩
                        · have q1 : ((a' : Int) == 2) = false := by rw [beq_eq_false_iff_ne]; omega
                          clear x2'
                          obtain ⟨ca8, cb8, ci8, ck8⟩ := O8.out.four ha5 hb5 hi5 hk5 HNA.out HNB.out HO1.out HO2.out
                          go_upto_region 9 with fail
                          go_quiet (fail)
                          have BQ := hid (drewN_below w8 nq)
                          replace O8 := hid (O8.out.next BQ.out)
                          replace B8 := hid (nextB B8.out BQ.out)
                          replace T8 := hid (T8.out.next BQ.out)
                          replace N8 := hid (N8.out.any BQ.out)
                          replace X8 := hid (X8.out.next BQ.out)
                          clear ca8 cb8 ci8 ck8 BQ
                          generalize w8.drewN nq = w9 at *
                          clear nq
                          obtain ⟨ca8, cb8, ci8, ck8⟩ := O8.out.four ha5 hb5 hi5 hk5 HNA.out HNB.out HO1.out HO2.out
                          go_upto_region 11 with fail
                          go_quiet (fail)
                          have BQ := hid (drewN_below w9 nq)
                          replace O8 := hid (O8.out.next BQ.out)
                          replace B8 := hid (nextB B8.out BQ.out)
                          replace T8 := hid (T8.out.next BQ.out)
                          replace N8 := hid (N8.out.any BQ.out)
                          replace X8 := hid (X8.out.next BQ.out)
                          clear ca8 cb8 ci8 ck8 BQ
                          generalize w9.drewN nq = w10 at *
                          clear nq
                          have SK := hid (show Calls Tryd.prog 7 #[.agg #[.string t.op, .string t.name, .int .i64 (t.kind : Nat), .int .i64 t.n, .int .i64 (t.pl : Nat), .slice sa sm sc]] w10 (fun e w' => e = .returned (.string ((((⟨#[114, 117, 108, 101, 32, 114, 32, 98, 111, 111, 108, 32, 61, 32, 40, 40, 120, 32]⟩ ++ O1) ++ ⟨#[32, 121, 41, 32]⟩) ++ O2) ++ ⟨#[32, 122, 41, 59, 10]⟩)) ∧ Below w10.heap.size w10 w') from by
                            have := Show_any t w10 sa sm sc _ N8.out (fun B h => sg_of t SG.out B (Nat.lt_of_lt_of_le T8.out.kt.1 h)) T8.out.pw T8.out.kt (by rw [SH.out, if_pos ba, wg_len]; omega) (by rw [SH.out, if_pos ba, wg_len]; omega)
                            rw [SH.out, if_pos ba] at this
                            exact this)
                          obtain ⟨x0, x1, x2, x3, x4, x5, xz⟩ := X8.out
                          go_wp2_with (go_at_call 7; with_reducible refine Calls.mono SK.out ?_; rintro e w11 ⟨rfl, b11⟩)
                          go_ret
                          exact ⟨rfl, nextB B8.out b11⟩
                      · have ba' : ¬ (b' : Int) ≤ (a' : Int) := by omega
                        by_cases x2' : a' = 2
                        · have q1 : ((a' : Int) == 2) = true := by rw [x2']; rfl
                          have q2 : ((b' : Int) == 2) = false := by rw [beq_eq_false_iff_ne]; intro z; exact NE.out ⟨x2', by omega⟩
                          clear x2'
                          obtain ⟨ca8, cb8, ci8, ck8⟩ := O8.out.four ha5 hb5 hi5 hk5 HNA.out HNB.out HO1.out HO2.out
                          go_upto_region 9 with fail
                          go_quiet (fail)
                          have BQ := hid (drewN_below w8 nq)
                          replace O8 := hid (O8.out.next BQ.out)
                          replace B8 := hid (nextB B8.out BQ.out)
                          replace T8 := hid (T8.out.next BQ.out)
                          replace N8 := hid (N8.out.any BQ.out)
                          replace X8 := hid (X8.out.next BQ.out)
                          clear ca8 cb8 ci8 ck8 BQ
                          generalize w8.drewN nq = w9 at *
                          clear nq
                          have SK := hid (show Calls Tryd.prog 7 #[.agg #[.string t.op, .string t.name, .int .i64 (t.kind : Nat), .int .i64 t.n, .int .i64 (t.pl : Nat), .slice sa sm sc]] w9 (fun e w' => e = .returned (.string ((((⟨#[114, 117, 108, 101, 32, 114, 32, 98, 111, 111, 108, 32, 61, 32, 40, 120, 32]⟩ ++ O1) ++ ⟨#[32, 40, 121, 32]⟩) ++ O2) ++ ⟨#[32, 122, 41, 41, 59, 10]⟩)) ∧ Below w9.heap.size w9 w') from by
                            have := Show_any t w9 sa sm sc _ N8.out (fun B h => sg_of t SG.out B (Nat.lt_of_lt_of_le T8.out.kt.1 h)) T8.out.pw T8.out.kt (by rw [SH.out, if_neg ba, wl_len]; omega) (by rw [SH.out, if_neg ba, wl_len]; omega)
                            rw [SH.out, if_neg ba] at this
                            exact this)
                          obtain ⟨x0, x1, x2, x3, x4, x5, xz⟩ := X8.out
                          go_wp2_with (go_at_call 7; with_reducible refine Calls.mono SK.out ?_; rintro e w11 ⟨rfl, b11⟩)
                          go_ret
                          exact ⟨rfl, nextB B8.out b11⟩
                        · have q1 : ((a' : Int) == 2) = false := by rw [beq_eq_false_iff_ne]; omega
                          clear x2'
                          obtain ⟨ca8, cb8, ci8, ck8⟩ := O8.out.four ha5 hb5 hi5 hk5 HNA.out HNB.out HO1.out HO2.out
                          go_upto_region 9 with fail
                          go_quiet (fail)
                          have BQ := hid (drewN_below w8 nq)
                          replace O8 := hid (O8.out.next BQ.out)
                          replace B8 := hid (nextB B8.out BQ.out)
                          replace T8 := hid (T8.out.next BQ.out)
                          replace N8 := hid (N8.out.any BQ.out)
                          replace X8 := hid (X8.out.next BQ.out)
                          clear ca8 cb8 ci8 ck8 BQ
                          generalize w8.drewN nq = w9 at *
                          clear nq
                          have SK := hid (show Calls Tryd.prog 7 #[.agg #[.string t.op, .string t.name, .int .i64 (t.kind : Nat), .int .i64 t.n, .int .i64 (t.pl : Nat), .slice sa sm sc]] w9 (fun e w' => e = .returned (.string ((((⟨#[114, 117, 108, 101, 32, 114, 32, 98, 111, 111, 108, 32, 61, 32, 40, 120, 32]⟩ ++ O1) ++ ⟨#[32, 40, 121, 32]⟩) ++ O2) ++ ⟨#[32, 122, 41, 41, 59, 10]⟩)) ∧ Below w9.heap.size w9 w') from by
                            have := Show_any t w9 sa sm sc _ N8.out (fun B h => sg_of t SG.out B (Nat.lt_of_lt_of_le T8.out.kt.1 h)) T8.out.pw T8.out.kt (by rw [SH.out, if_neg ba, wl_len]; omega) (by rw [SH.out, if_neg ba, wl_len]; omega)
                            rw [SH.out, if_neg ba] at this
                            exact this)
                          obtain ⟨x0, x1, x2, x3, x4, x5, xz⟩ := X8.out
                          go_wp2_with (go_at_call 7; with_reducible refine Calls.mono SK.out ?_; rintro e w11 ⟨rfl, b11⟩)
                          go_ret
                          exact ⟨rfl, nextB B8.out b11⟩

end Go.Proofs.YtiikdmnmfmfpdaaDoor
