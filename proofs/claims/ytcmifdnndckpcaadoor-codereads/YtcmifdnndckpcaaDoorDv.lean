/- A program that came in. -/
import Derived.Test.YtcmifdnndckpcaaDoorDu
import Derived.Test.YtcmifdnndckpcaaDoorSf
import Derived.Lib.SmallJoins
import Derived.SliceStrings
namespace Go.Proofs.YtcmifdnndckpcaaDoor
open Go.ChangeShapes Go.WideShapes Go.ChangeAt Go.RowKit Go.Deep Go.Joins
set_option linter.unusedVariables false
set_option linter.unusedSimpArgs false

theorem list_of {α : Type} {Q : Nat → α → Prop} : ∀ n : Nat, (∀ i, i < n → ∃ x, Q i x) → ∃ xs : List α, xs.length = n ∧ ∀ i x, xs[i]? = some x → Q i x := by
  intro n
  induction n with
  | zero => intro _; exact ⟨[], rfl, fun i x h => by simp at h⟩
  | succ n ih =>
    intro h
    obtain ⟨xs, h1, h2⟩ := ih fun i hi => h i (by omega)
    obtain ⟨x, hx⟩ := h n (by omega)
    refine ⟨xs ++ [x], by rw [List.length_append, h1]; rfl, fun i y hy => ?_⟩
    by_cases c : i < n
    · rw [List.getElem?_append_left (by omega)] at hy
      exact h2 i y hy
    · rw [List.getElem?_append_right (by omega), h1] at hy
      have hi : i = n := by
        have := (List.getElem?_eq_some_iff.1 hy).1
        simp at this
        omega
      subst hi
      simp at hy
      subst hy
      exact hx
theorem i64_ok {z : Int} (h : (Lit.int .i64 z).wf = true) : cI.ok z := by
  simp [Lit.wf, IntKind.min, IntKind.max, IntKind.signed, IntKind.bits] at h
  exact ⟨by omega, by omega⟩
section
variable {H : Type} {enc : TypeId × Value → H} {W : World} {base fuel : Nat} {sp : Nat → Bool} {held : Bool} {V : Value} {y : DataW H × List MemPlace}
theorem int_of {t : TypeId} (ht : Tryd.prog.underlying t = some (.int .i64)) (h : DataW.trod enc Tryd.prog W base sp held fuel t [V] = some y) : ∃ z, V = .int .i64 z ∧ cI.ok z := by
  obtain ⟨z, hc, _, hw⟩ := DataW.trod_int ht h
  simp at hc
  exact ⟨z, hc, i64_ok hw⟩
theorem ints_of {t e : TypeId} (ht : Tryd.prog.underlying t = some (.slice e)) (he : Tryd.prog.underlying e = some (.int .i64)) (hc : Tryd.prog.cellsOf e = 1) (h : DataW.trod enc Tryd.prog W base sp held fuel t [V] = some y) : ∃ a m c xs, V = .slice a m c ∧ Vw aI 1 W a m xs := by
  rcases open_ints ht he hc h with ⟨hcs, _⟩ | ⟨x, l, c, zs, hcs, _, hl, hm, hz, _, hcell, hwz⟩
  · simp at hcs
    exact ⟨none, 0, 0, [], hcs, Vw.empty _ _ _⟩
  · simp at hcs
    have hlz : l ≤ zs.length := by rw [hz]; split <;> omega
    obtain ⟨b, off, spot⟩ := x
    have hspot : 0 < l → spot = none := fun p => by
      have hc := hcell 0 (by omega)
      simpa [Addr.add] using World.cell?_spot hc
    refine ⟨_, l, c, zs.take l, hcs, by simp; omega, b, off, fun p => by rw [hspot p], fun i x hx => ?_⟩
    have hi : i < l := by
      have := (List.getElem?_eq_some_iff.1 hx).1
      simp at this
      omega
    obtain rfl := hspot (by omega)
    have := hcell i (by omega)
    rw [Addr.add_mid] at this
    have hx2 : zs[i]? = some x := by rwa [List.getElem?_take, if_pos hi] at hx
    rw [Nat.mul_one]
    refine ⟨?_, i64_ok (hwz x (List.mem_of_getElem? hx2))⟩
    rw [this]
    simp [List.getD, hx2]
theorem strs_of {t e : TypeId} (ht : Tryd.prog.underlying t = some (.slice e)) (he : Tryd.prog.underlying e = some .string) (hc : Tryd.prog.cellsOf e = 1) (h : DataW.trod enc Tryd.prog W base sp held fuel t [V] = some y) : ∃ a m c xs, V = .slice a m c ∧ Vw aS 1 W a m xs := by
  rcases open_strings ht he hc h with ⟨hcs, _⟩ | ⟨x, l, c, zs, hcs, _, hl, hm, hz, _, hcell, hwz⟩
  · simp at hcs
    exact ⟨none, 0, 0, [], hcs, Vw.empty _ _ _⟩
  · simp at hcs
    have hlz : l ≤ zs.length := by rw [hz]; split <;> omega
    obtain ⟨b, off, spot⟩ := x
    have hspot : 0 < l → spot = none := fun p => by
      have hc := hcell 0 (by omega)
      simpa [Addr.add] using World.cell?_spot hc
    refine ⟨_, l, c, (zs.take l).map nums, hcs, by simp; omega, b, off, fun p => by rw [hspot p], fun i x hx => ?_⟩
    have hi : i < l := by
      have := (List.getElem?_eq_some_iff.1 hx).1
      simp at this
      omega
    obtain rfl := hspot (by omega)
    have := hcell i (by omega)
    rw [Addr.add_mid] at this
    rw [List.getElem?_map, List.getElem?_take, if_pos hi, Option.map_eq_some_iff] at hx
    obtain ⟨s, hs, rfl⟩ := hx
    rw [Nat.mul_one]
    refine ⟨s, ?_, rfl, hwz s (List.mem_of_getElem? hs)⟩
    rw [this]
    simp [List.getD, hs]
theorem slice_cells {a : Option Addr} {m c : Nat} : (Value.slice a m c).cells.toList = [.slice a m c] := by simp [Value.cells]
theorem form_of {t e : TypeId} (ht : Tryd.prog.underlying t = some (.slice e)) (h : DataW.trod enc Tryd.prog W base sp held fuel t [V] = some y) : ∃ a m c, V = .slice a m c := by
  obtain ⟨a, m, c, e⟩ := slice_form ht h
  simp at e
  exact ⟨a, m, c, e⟩
theorem consts_of (h : DataW.trod enc Tryd.prog W base sp held fuel 23 [V] = some y) : ∃ a m c xs, V = .slice a m c ∧ Vw aC 3 W a m xs := by
  obtain ⟨a, m, c, rfl⟩ := form_of Tryd.underlying23 h
  obtain ⟨h1, h2, h3, g, o, h4, h5⟩ := open_slice_fields (a := a) (len := m) (cap := c) Tryd.underlying23 Tryd.underlying62 (hone_of (by kernel_rfl)) (by kernel_rfl) (by decide) (by rw [slice_cells]; exact h)
  obtain ⟨xs, k1, k2⟩ := list_of (Q := fun i x => aC W g (o + i * 3) x) m fun i hi => by
    obtain ⟨V0, n0, y0, e0, t0⟩ := h5 i hi 0 _ rfl
    obtain ⟨V1, n1, y1, e1, t1⟩ := h5 i hi 1 _ rfl
    obtain ⟨V2, n2, y2, e2, t2⟩ := h5 i hi 2 _ rfl
    obtain ⟨z0, rfl, o0⟩ := int_of Tryd.underlying56 t0
    obtain ⟨z1, rfl, o1⟩ := int_of Tryd.underlying2 t1
    obtain ⟨a2, m2, c2, rfl⟩ := form_of Tryd.underlying57 t2
    exact ⟨(z0, z1), e0, e1, ⟨a2, m2, c2, e2⟩, o0, o1⟩
  exact ⟨a, m, c, xs, rfl, k1, g, o, h4, k2⟩
theorem instrs_of (h : DataW.trod enc Tryd.prog W base sp held fuel 27 [V] = some y) : ∃ a m c xs, V = .slice a m c ∧ Vw aN 4 W a m xs := by
  obtain ⟨a, m, c, rfl⟩ := form_of Tryd.underlying27 h
  obtain ⟨h1, h2, h3, g, o, h4, h5⟩ := open_slice_fields (a := a) (len := m) (cap := c) Tryd.underlying27 Tryd.underlying36 (hone_of (by kernel_rfl)) (by kernel_rfl) (by decide) (by rw [slice_cells]; exact h)
  obtain ⟨xs, k1, k2⟩ := list_of (Q := fun i x => aN W g (o + i * 4) x) m fun i hi => by
    obtain ⟨V0, n0, y0, e0, t0⟩ := h5 i hi 0 _ rfl
    obtain ⟨V1, n1, y1, e1, t1⟩ := h5 i hi 1 _ rfl
    obtain ⟨V2, n2, y2, e2, t2⟩ := h5 i hi 2 _ rfl
    obtain ⟨V3, n3, y3, e3, t3⟩ := h5 i hi 3 _ rfl
    obtain ⟨z0, rfl, o0⟩ := int_of Tryd.underlying3 t0
    obtain ⟨z1, rfl, o1⟩ := int_of Tryd.underlying3 t1
    obtain ⟨z2, rfl, o2⟩ := int_of Tryd.underlying3 t2
    obtain ⟨z3, rfl, o3⟩ := int_of Tryd.underlying3 t3
    exact ⟨(z0, z1, z2, z3), e0, e1, e2, e3, o0, o1, o2, o3⟩
  exact ⟨a, m, c, xs, rfl, k1, g, o, h4, k2⟩
theorem tables_of (h : DataW.trod enc Tryd.prog W base sp held fuel 24 [V] = some y) : ∃ a m c xs, V = .slice a m c ∧ Vw aT 4 W a m xs := by
  obtain ⟨a, m, c, rfl⟩ := form_of Tryd.underlying24 h
  obtain ⟨h1, h2, h3, g, o, h4, h5⟩ := open_slice_fields (a := a) (len := m) (cap := c) Tryd.underlying24 Tryd.underlying59 (hone_of (by kernel_rfl)) (by kernel_rfl) (by decide) (by rw [slice_cells]; exact h)
  obtain ⟨xs, k1, k2⟩ := list_of (Q := fun i x => aT W g (o + i * 4) x) m fun i hi => by
    obtain ⟨V0, n0, y0, e0, t0⟩ := h5 i hi 0 _ rfl
    obtain ⟨V1, n1, y1, e1, t1⟩ := h5 i hi 1 _ rfl
    obtain ⟨V2, n2, y2, e2, t2⟩ := h5 i hi 2 _ rfl
    obtain ⟨V3, n3, y3, e3, t3⟩ := h5 i hi 3 _ rfl
    obtain ⟨z0, rfl, o0⟩ := int_of Tryd.underlying56 t0
    obtain ⟨z1, rfl, o1⟩ := int_of Tryd.underlying56 t1
    obtain ⟨a2, m2, c2, x2, rfl, w2⟩ := ints_of Tryd.underlying57 Tryd.underlying2 (by kernel_rfl) t2
    obtain ⟨a3, m3, c3, x3, rfl, w3⟩ := ints_of Tryd.underlying57 Tryd.underlying2 (by kernel_rfl) t3
    have l2 := w2.len
    have l3 := w3.len
    subst l2 l3
    exact ⟨(z0, z1, x2, x3), e0, e1, o0, o1, ⟨a2, c2, e2, w2⟩, ⟨a3, c3, e3, w3⟩⟩
  exact ⟨a, m, c, xs, rfl, k1, g, o, h4, k2⟩
end
theorem array7 {α : Type} {cs : Array α} (h : cs.size = 7) : ∃ c0 c1 c2 c3 c4 c5 c6, cs = #[c0, c1, c2, c3, c4, c5, c6] := by
  obtain ⟨l⟩ := cs
  match l, h with
  | [c0, c1, c2, c3, c4, c5, c6], _ => exact ⟨c0, c1, c2, c3, c4, c5, c6, rfl⟩
set_option maxRecDepth 100000 in
theorem prog_of {H : Type} {enc : TypeId × Value → H} {W : World} {base b0 : Nat} {sp : Nat → Bool} {held : Bool} {v : Value} {d : DataW H} {p : List MemPlace} (hv : Value.okWide Tryd.prog W .any b0 29 v)
    (h : DataW.Trod enc Tryd.prog W base sp held 29 v d p) : ∃ q : PP, Pw W v q := by
  obtain ⟨cs, rfl, hsz⟩ := okWide_struct Tryd.underlying29 hv
  obtain ⟨c0, c1, c2, c3, c4, c5, c6, rfl⟩ := array7 (hsz.trans (by kernel_rfl))
  obtain ⟨fuel, hf⟩ := h
  obtain ⟨xs, n, _, hx, hl, hlen, hff⟩ := DataW.trod_struct Tryd.underlying29 hf
  have k0 : Tryd.prog.cellsOf 23 = 1 := by kernel_rfl
  have k1 : Tryd.prog.cellsOf 24 = 1 := by kernel_rfl
  have k2 : Tryd.prog.cellsOf 25 = 1 := by kernel_rfl
  have k3 : Tryd.prog.cellsOf 25 = 1 := by kernel_rfl
  have k4 : Tryd.prog.cellsOf 25 = 1 := by kernel_rfl
  have k5 : Tryd.prog.cellsOf 26 = 1 := by kernel_rfl
  have k6 : Tryd.prog.cellsOf 27 = 1 := by kernel_rfl
  have g0 := hff 0 _ rfl
  have t0 : DataW.trod enc Tryd.prog W base sp held n 23 [c0] = some (xs[0]'(by rw [hlen]; decide)) := by
    rw [← List.getElem?_eq_getElem]
    simpa [Value.cells, k0] using g0
  have g1 := hff 1 _ rfl
  have t1 : DataW.trod enc Tryd.prog W base sp held n 24 [c1] = some (xs[1]'(by rw [hlen]; decide)) := by
    rw [← List.getElem?_eq_getElem]
    simpa [Value.cells, k1] using g1
  have g2 := hff 2 _ rfl
  have t2 : DataW.trod enc Tryd.prog W base sp held n 25 [c2] = some (xs[2]'(by rw [hlen]; decide)) := by
    rw [← List.getElem?_eq_getElem]
    simpa [Value.cells, k2] using g2
  have g3 := hff 3 _ rfl
  have t3 : DataW.trod enc Tryd.prog W base sp held n 25 [c3] = some (xs[3]'(by rw [hlen]; decide)) := by
    rw [← List.getElem?_eq_getElem]
    simpa [Value.cells, k3] using g3
  have g4 := hff 4 _ rfl
  have t4 : DataW.trod enc Tryd.prog W base sp held n 25 [c4] = some (xs[4]'(by rw [hlen]; decide)) := by
    rw [← List.getElem?_eq_getElem]
    simpa [Value.cells, k4] using g4
  have g5 := hff 5 _ rfl
  have t5 : DataW.trod enc Tryd.prog W base sp held n 26 [c5] = some (xs[5]'(by rw [hlen]; decide)) := by
    rw [← List.getElem?_eq_getElem]
    simpa [Value.cells, k5] using g5
  have g6 := hff 6 _ rfl
  have t6 : DataW.trod enc Tryd.prog W base sp held n 27 [c6] = some (xs[6]'(by rw [hlen]; decide)) := by
    rw [← List.getElem?_eq_getElem]
    simpa [Value.cells, k6] using g6
  obtain ⟨a0, m0, d0, x0, rfl, w0⟩ := consts_of t0
  obtain ⟨a1, m1, d1, x1, rfl, w1⟩ := tables_of t1
  obtain ⟨a2, m2, d2, x2, rfl, w2⟩ := ints_of Tryd.underlying25 Tryd.underlying56 (by kernel_rfl) t2
  obtain ⟨a3, m3, d3, x3, rfl, w3⟩ := ints_of Tryd.underlying25 Tryd.underlying56 (by kernel_rfl) t3
  obtain ⟨a4, m4, d4, x4, rfl, w4⟩ := ints_of Tryd.underlying25 Tryd.underlying56 (by kernel_rfl) t4
  obtain ⟨a5, m5, d5, x5, rfl, w5⟩ := strs_of Tryd.underlying26 Tryd.underlying9 (by kernel_rfl) t5
  obtain ⟨a6, m6, d6, x6, rfl, w6⟩ := instrs_of t6
  exact ⟨(x0, x1, x2, x3, x4, x5, x6), a0, m0, d0, a1, m1, d1, a2, m2, d2, a3, m3, d3, a4, m4, d4, a5, m5, d5, a6, m6, d6, rfl, w0, w1, w2, w3, w4, w5, w6⟩
theorem vw_all {α : Type} {A : World → Nat → Nat → α → Prop} {k : Nat} {w : World} {a : Option Addr} {m : Nat} {xs : List α} {Q : α → Prop} (h : Vw A k w a m xs) (n : ∀ g p x, A w g p x → Q x) : ∀ x ∈ xs, Q x := by
  intro x hx
  obtain ⟨g, o, _, h2⟩ := h.at_
  obtain ⟨i, hi⟩ := List.getElem?_of_mem hx
  exact n _ _ _ (h2 i x hi)
/-- A program that came in is one that can be written. -/
theorem Pw.ok {w : World} {v : Value} {p : PP} (h : Pw w v p) (s : Small p) : (cProg false).ok p := by
  obtain ⟨a0, m0, c0, a1, m1, c1, a2, m2, c2, a3, m3, c3, a4, m4, c4, a5, m5, c5, a6, m6, c6, e, h0, h1, h2, h3, h4, h5, h6⟩ := h.ex
  have l0 := s.l0
  have l1 := s.l1
  have l2 := s.l2
  have l3 := s.l3
  have l4 := s.l4
  have l5 := s.l5
  have l6 := s.l6
  refine ⟨⟨vw_all h0 fun g p x hx => hx.2.2.2, by omega⟩, ⟨fun x hx => ?_, by omega⟩, ⟨vw_all h2 fun g p x hx => hx.2, by omega⟩, ⟨vw_all h3 fun g p x hx => hx.2, by omega⟩, ⟨vw_all h4 fun g p x hx => hx.2, by omega⟩, ⟨fun x hx => ?_, by omega⟩, ⟨vw_all h6 fun g p x hx => hx.2.2.2.2, by omega⟩⟩
  · have t := s.ts x hx
    have q := vw_all (Q := fun x => cI.ok x.1 ∧ cI.ok x.2.1 ∧ (∀ z ∈ x.2.2.1, cI.ok z) ∧ ∀ z ∈ x.2.2.2, cI.ok z) h1 (fun g p x hx => by
      obtain ⟨_, _, o1, o2, ⟨a, c, _, v3⟩, ⟨a', c', _, v4⟩⟩ := hx
      exact ⟨o1, o2, vw_all v3 fun g p x hx => hx.2, vw_all v4 fun g p x hx => hx.2⟩) x hx
    exact ⟨q.1, q.2.1, ⟨q.2.2.1, by omega⟩, ⟨q.2.2.2, by omega⟩⟩
  · have t := s.ns x hx
    have q := vw_all (Q := fun x => Bys x) h5 (fun g p x hx => by
      obtain ⟨s, _, rfl, _⟩ := hx
      exact nums_bys s) x hx
    exact ⟨q, by omega⟩
theorem flat_most {α : Type} {f : α → List Int} {k : Nat} : ∀ xs : List α, (∀ x ∈ xs, (f x).length ≤ k) → (xs.map f).flatten.length ≤ xs.length * k := by
  intro xs
  induction xs with
  | nil => intro _; simp
  | cons x xs ih =>
    intro h
    have h1 := h x (by simp)
    have h2 := ih fun y hy => h y (by simp [hy])
    simp only [List.map_cons, List.flatten_cons, List.length_append, List.length_cons, Nat.succ_mul]
    omega
theorem cI_most {x : Int} (h : cI.ok x) : (cI.en x).length ≤ 10 := enc_len10 (zig_lt h.1 h.2)
theorem cL_most {α : Type} {c : Cod α} {k n : Nat} {xs : List α} (h : ∀ x ∈ xs, (c.en x).length ≤ k) (hn : xs.length ≤ n) (h64 : n < 18446744073709551616) : ((cL false c).en xs).length ≤ 10 + n * k := by
  have h1 := flat_most xs h
  have h2 := enc_len10 (show xs.length < 18446744073709551616 by omega)
  have h3 : xs.length * k ≤ n * k := Nat.mul_le_mul_right _ hn
  show (enc xs.length ++ (xs.map c.en).flatten).length ≤ _
  rw [List.length_append]
  omega
/-- Its bytes are few. -/
theorem small_bytes {p : PP} (h : (cProg false).ok p) (s : Small p) : (bodyOf p).length ≤ 200000 := by
  obtain ⟨p0, p1, p2, p3, p4, p5, p6⟩ := p
  obtain ⟨o0, o1, o2, o3, o4, o5, o6⟩ := h
  have e : (bodyOf (p0, p1, p2, p3, p4, p5, p6)).length = ((cL false cC).en p0).length + (((cL false (cT false)).en p1).length + (((cL false cI).en p2).length + (((cL false cI).en p3).length + (((cL false cI).en p4).length + (((cL false cS).en p5).length + ((cL false cN).en p6).length))))) := by
    show ((cL false cC).en p0 ++ ((cL false (cT false)).en p1 ++ ((cL false cI).en p2 ++ ((cL false cI).en p3 ++ ((cL false cI).en p4 ++ ((cL false cS).en p5 ++ (cL false cN).en p6)))))).length = _
    simp only [List.length_append]
  have l0 : p0.length ≤ 1100 := s.l0
  have l1 : p1.length ≤ 70 := s.l1
  have l2 : p2.length ≤ 70 := s.l2
  have l3 : p3.length ≤ 70 := s.l3
  have l4 : p4.length ≤ 70 := s.l4
  have l5 : p5.length ≤ 70 := s.l5
  have l6 : p6.length ≤ 400 := s.l6
  have b0 := cL_most (c := cC) (k := 20) (fun x hx => by
    have := cI_most (o0.1 x hx).1
    have := cI_most (o0.1 x hx).2
    show (cI.en x.1 ++ cI.en x.2).length ≤ 20
    rw [List.length_append]; omega) l0 (by decide)
  have b1 := cL_most (c := cT false) (k := 1040) (fun x hx => by
    have q := o1.1 x hx
    have t := s.ts x hx
    have h1 := cI_most q.1
    have h2 := cI_most q.2.1
    have h3 := cL_most (c := cI) (k := 10) (fun z hz => cI_most (q.2.2.1.1 z hz)) t.1 (by decide)
    have h4 := cL_most (c := cI) (k := 10) (fun z hz => cI_most (q.2.2.2.1 z hz)) t.2 (by decide)
    show (cI.en x.1 ++ (cI.en x.2.1 ++ ((cL false cI).en x.2.2.1 ++ (cL false cI).en x.2.2.2))).length ≤ 1040
    simp only [List.length_append]
    omega) l1 (by decide)
  have b2 := cL_most (xs := p2) (c := cI) (k := 10) (fun z hz => cI_most (o2.1 z hz)) l2 (by decide)
  have b3 := cL_most (xs := p3) (c := cI) (k := 10) (fun z hz => cI_most (o3.1 z hz)) l3 (by decide)
  have b4 := cL_most (xs := p4) (c := cI) (k := 10) (fun z hz => cI_most (o4.1 z hz)) l4 (by decide)
  have b5 := cL_most (c := cS) (k := 210) (fun x hx => by
    have t := s.ns x hx
    have := enc_len10 (show x.length < 18446744073709551616 by omega)
    show (enc x.length ++ x).length ≤ 210
    rw [List.length_append]; omega) l5 (by decide)
  have b6 := cL_most (c := cN) (k := 40) (fun x hx => by
    have q := o6.1 x hx
    have h1 := cI_most q.1
    have h2 := cI_most q.2.1
    have h3 := cI_most q.2.2.1
    have h4 := cI_most q.2.2.2
    show (cI.en x.1 ++ (cI.en x.2.1 ++ (cI.en x.2.2.1 ++ cI.en x.2.2.2))).length ≤ 40
    simp only [List.length_append]
    omega) l6 (by decide)
  rw [e]
  omega

end Go.Proofs.YtcmifdnndckpcaaDoor
