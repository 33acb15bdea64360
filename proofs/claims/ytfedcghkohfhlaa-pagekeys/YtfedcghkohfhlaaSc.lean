/- A page that came in. -/
import Derived.Test.YtfedcghkohfhlaaPc
import Derived.Test.YtfedcghkohfhlaaT3
import Derived.Lib.SmallJoins
import Derived.SliceStrings
import Derived.SizedLaws
namespace Go.Proofs.Ytfedcghkohfhlaa
open Go.ChangeShapes Go.WideShapes Go.ChangeAt Go.RowKit Go.Deep Go.Joins
set_option linter.unusedVariables false
set_option linter.unusedSimpArgs false

theorem weightsAll_mem {H : Type} {P : Program} {e : TypeId} : ∀ {ds : List (DataW H)} {d : DataW H}, d ∈ ds → ∀ n ∈ d.weights P e, n ∈ DataW.weightsAll P e ds
  | [], d, h, _, _ => by cases h
  | c :: ds, d, h, n, hn => by
    simp only [DataW.weightsAll, List.mem_append]
    rcases List.mem_cons.1 h with rfl | h
    · exact Or.inl hn
    · exact Or.inr (weightsAll_mem h n hn)
theorem noSpot {W : World} {x : Addr} {v : Value} (h : W.cell? (x.add 0) = some v) : x = ⟨x.block, x.off, none⟩ := by
  obtain ⟨b, off, spot⟩ := x
  have hspot : spot = none := by simpa [Addr.add] using World.cell?_spot h
  subst hspot
  rfl
theorem tx_of {H : Type} {enc : TypeId × Value → H} {W : World} {base fuel : Nat} {sp : Nat → Bool} {held : Bool} {v : Value} {x : DataW H × List MemPlace}
    (h : DataW.trod enc Try.prog W base sp held fuel 23 [v] = some x) (hw : ∀ n ∈ x.1.weights Try.prog 23, n ≤ reachBytes) : ∃ a len cap ss, v = .slice a len cap ∧ Sl W a len cap (sv ss) ∧ Short ss := by
  rcases open_strings Try.underlying23 Try.underlying9 (by kernel_rfl) h with ⟨hcs, _⟩ | ⟨x, l, c, zs, hcs, _, hl, hm, hz, rfl, hcell, hwz⟩
  · simp at hcs
    subst hcs
    exact ⟨none, 0, 0, [], rfl, Sl.empty W, fun i => by simp [kAt]⟩
  · simp at hcs
    subst hcs
    have hlz : l ≤ zs.length := by rw [hz]; split <;> omega
    refine ⟨some x, l, c, zs.take l, rfl, ⟨by rw [sv_len]; simp; omega, hl, hm, fun e => by simp at e, ⟨x.block, x.off, fun p => by rw [noSpot (hcell 0 (by omega))], fun i u hi => ?_⟩, fun u hu => ?_⟩, fun i => ?_⟩
    · have hi' := lt_of_some hi
      rw [sv_len] at hi'
      have hil : i < l := by simp at hi'; omega
      rw [sv_get hi'] at hi
      have e := noSpot (hcell 0 (by omega))
      have := hcell i (by omega)
      rw [e, Addr.add_mid] at this
      rw [this, ← hi]
      simp [List.getD, hil]
    · unfold sv at hu
      obtain ⟨s, _, rfl⟩ := List.mem_map.1 hu
      rfl
    · by_cases hi : i < l
      · rw [kAt_take hi, kAt_get (by omega)]
        have m : (DataW.lit (Lit.string (zs[i]'(by omega)).data.toList) : DataW H) ∈ strs (zs.take l) := by
          unfold strs
          refine List.mem_map.2 ⟨zs[i]'(by omega), ?_, rfl⟩
          rw [List.mem_take_iff_getElem]
          exact ⟨i, by omega, rfl⟩
        have := hw (zs[i]'(by omega)).data.toList.length (by
          simp only [DataW.weights, Try.underlying23, List.mem_cons, List.mem_append]
          exact Or.inr (Or.inl (weightsAll_mem m _ (by simp [DataW.weights]))))
        rw [Array.length_toList] at this
        exact this
      · have : kAt (zs.take l) i = ByteArray.empty := by simp [kAt, List.getD, List.getElem?_eq_none (show (zs.take l).length ≤ i by simp; omega)]
        rw [this]; exact Nat.zero_le _
theorem nm_of {H : Type} {enc : TypeId × Value → H} {W : World} {base fuel : Nat} {sp : Nat → Bool} {held : Bool} {v : Value} {x : DataW H × List MemPlace}
    (h : DataW.trod enc Try.prog W base sp held fuel 24 [v] = some x) : ∃ a len cap ks, v = .slice a len cap ∧ Sl W a len cap (kv ks) ∧ ∀ k ∈ ks, k < 18446744073709551616 := by
  rcases open_ints Try.underlying24 Try.underlying31 (by kernel_rfl) h with ⟨hcs, _⟩ | ⟨x, l, c, zs, hcs, _, hl, hm, hz, rfl, hcell, hwz⟩
  · simp at hcs
    subst hcs
    exact ⟨none, 0, 0, [], rfl, Sl.empty W, fun k hk => by simp at hk⟩
  · simp at hcs
    subst hcs
    have hlz : l ≤ zs.length := by rw [hz]; split <;> omega
    have wf : ∀ z ∈ zs, 0 ≤ z ∧ z < 18446744073709551616 := fun z hz => by
      have := hwz z hz
      simp [Lit.wf, IntKind.min, IntKind.max, IntKind.signed, IntKind.bits] at this
      omega
    refine ⟨some x, l, c, (zs.take l).map Int.toNat, rfl, ⟨by rw [kv_len]; simp; omega, hl, hm, fun e => by simp at e, ⟨x.block, x.off, fun p => by rw [noSpot (hcell 0 (by omega))], fun i u hi => ?_⟩, fun u hu => ?_⟩, fun k hk => ?_⟩
    · have hi' := lt_of_some hi
      rw [kv_len] at hi'
      have hil : i < l := by simp at hi'; omega
      rw [kv_get hi'] at hi
      have e := noSpot (hcell 0 (by omega))
      have := hcell i (by omega)
      rw [e, Addr.add_mid] at this
      rw [this, ← hi]
      have g : i < zs.length := by omega
      have q := wf zs[i] (List.getElem_mem g)
      simp [List.getD, hil, g]
      omega
    · unfold kv at hu
      obtain ⟨s, _, rfl⟩ := List.mem_map.1 hu
      rfl
    · obtain ⟨z, hz, rfl⟩ := List.mem_map.1 hk
      have := wf z (List.mem_of_mem_take hz)
      omega
theorem bool_of {H : Type} {enc : TypeId × Value → H} {W : World} {base fuel : Nat} {sp : Nat → Bool} {held : Bool} {v : Value} {x : DataW H × List MemPlace}
    (h : DataW.trod enc Try.prog W base sp held fuel 4 [v] = some x) : ∃ b, v = .bool b := by
  cases fuel with
  | zero => simp [DataW.trod] at h
  | succ n =>
    simp only [DataW.trod, Try.underlying4] at h
    cases v <;> simp at h
    exact ⟨_, rfl⟩
theorem pg_of {H : Type} {enc : TypeId × Value → H} {W : World} {base b0 : Nat} {sp : Nat → Bool} {held : Bool} {v : Value} {d : DataW H} {p : List MemPlace} (hv : Value.okWide Try.prog W .any b0 26 v)
    (h : DataW.Trod enc Try.prog W base sp held 26 v d p) (hw : ∀ n ∈ d.weights Try.prog 26, n ≤ reachBytes) : ∃ q : Pg, Pv W v q ∧ Short q.keys ∧ Short q.vals := by
  obtain ⟨c0, c1, c2, c3, y0, y1, y2, y3, n, rfl, rfl, rfl, h0, h1, h2, h3⟩ := open_agg4 Try.underlying26 (by kernel_rfl) (by kernel_rfl) hv h
  simp only [DataW.weights, Try.underlying26, List.map_cons, List.map_nil, DataW.weightsEach, List.mem_append] at hw
  obtain ⟨lf, rfl⟩ := bool_of h0
  obtain ⟨ka, kn, kc, ks, rfl, k1, k2⟩ := tx_of h1 (fun n hn => hw n (Or.inr (Or.inl hn)))
  obtain ⟨va, vn, vc, vs, rfl, v1, v2⟩ := tx_of h2 (fun n hn => hw n (Or.inr (Or.inr (Or.inl hn))))
  obtain ⟨ia, im, ic, is, rfl, i1, i2⟩ := nm_of h3
  exact ⟨⟨lf, ks, vs, is⟩, Pv.mk' k1 v1 i1 i2, k2, v2⟩

end Go.Proofs.Ytfedcghkohfhlaa
