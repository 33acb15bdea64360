/- Rows of a call's own; the walk over verify's pairs. -/
import Derived.Test.YtjkbiglnpoeddaaDoorVfg
import Derived.Laws.OwnMore
namespace Go.Proofs.YtjkbiglnpoeddaaDoor.Vf
open Go.RowKit
set_option linter.unusedVariables false
set_option linter.unusedSimpArgs false

/-- A row of a call's own: each thing takes k cells. -/
def Qf {α : Type} (T : TypeId) (k : Nat) (f : α → List Value) (w : World) (B : Nat) (v : Value) (xs : List α) : Prop := w.ownsRow B T k v xs.length (xs.flatMap f)
theorem Qf.nil {α : Type} (T : TypeId) (k : Nat) (f : α → List Value) (w : World) (B : Nat) : Qf T k f w B (.slice none 0 0) [] := World.ownsRow_nil _ _ _ _
theorem Qf.kept {α : Type} {T : TypeId} {k : Nat} {f : α → List Value} {w w' : World} {B : Nat} {v : Value} {xs : List α} (h : Qf T k f w B v xs) (hk : ∀ i, B ≤ i → i < w.heap.size → (∃ cs fr, w.heap[i]? = some (.cells cs T fr)) → w'.heap[i]? = w.heap[i]?) : Qf T k f w' B v xs := by
  refine ⟨h.1, ?_⟩
  rcases h.2 with hn | ⟨g, cap, cur, hv, hg, hb, rest⟩
  · exact .inl hn
  · exact .inr ⟨g, cap, cur, hv, hg, by rw [hk g hg (Array.getElem?_eq_some_iff.1 hb).1 ⟨_, _, hb⟩]; exact hb, rest⟩
theorem Qf.next {α : Type} {T : TypeId} {k : Nat} {f : α → List Value} {w w' : World} {B : Nat} {v : Value} {xs : List α} (h : Qf T k f w B v xs) (b : Below w.heap.size w w') : Qf T k f w' B v xs := h.kept fun i _ l _ => b.block i l
theorem Qf.but {α : Type} {T : TypeId} {k : Nat} {f : α → List Value} {w w' : World} {B p : Nat} {v : Value} {xs : List α} (h : Qf T k f w B v xs) (g : w.grownBy w' (some p)) (hp : p < B) : Qf T k f w' B v xs :=
  h.kept fun i hi l _ => g.block i l (fun e => by injection e with e; omega)
theorem Qf.mono {α : Type} {T : TypeId} {k : Nat} {f : α → List Value} {w : World} {B B' : Nat} {v : Value} {xs : List α} (h : Qf T k f w B v xs) (b : B' ≤ B) : Qf T k f w B' v xs := by
  refine ⟨h.1, ?_⟩
  rcases h.2 with hn | ⟨g, cap, cur, hv, hg, rest⟩
  · exact .inl hn
  · exact .inr ⟨g, cap, cur, hv, Nat.le_trans b hg, rest⟩
theorem Qf.slice {α : Type} {T : TypeId} {k : Nat} {f : α → List Value} {w : World} {B : Nat} {v : Value} {xs : List α} (h : Qf T k f w B v xs) : ∃ a c, v = .slice a xs.length c := by
  rcases h.2 with ⟨h1, h2⟩ | ⟨g, cap, cur, hv, _⟩
  · exact ⟨none, 0, by rw [h1, h2]⟩
  · exact ⟨_, _, hv⟩
theorem Qf.ty {α : Type} {T : TypeId} {k : Nat} {f : α → List Value} {w : World} {B : Nat} {v : Value} {xs : List α} (h : Qf T k f w B v xs) : ∀ i, v.ownBlock = some i → B ≤ i ∧ i < w.heap.size ∧ ∃ cs fr, w.heap[i]? = some (.cells cs T fr) := by
  intro i e
  rcases h.2 with ⟨h1, _⟩ | ⟨g, cap, cur, hv, hg, hb, _⟩
  · rw [h1] at e; cases e
  · rw [hv] at e
    injection e with e
    subst e
    exact ⟨hg, (Array.getElem?_eq_some_iff.1 hb).1, _, _, hb⟩
/-- Where the things' cells are. -/
theorem flat_at {α : Type} {k : Nat} {f : α → List Value} (hf : ∀ x, (f x).length = k) : ∀ (xs : List α) (i : Nat) (x : α) (j : Nat), xs[i]? = some x → j < k → (xs.flatMap f)[i * k + j]? = (f x)[j]? := by
  intro xs
  induction xs with
  | nil => intro i x j h; simp at h
  | cons y ys ih =>
    intro i x j h hj
    rw [List.flatMap_cons]
    cases i with
    | zero =>
      simp at h
      subst h
      rw [Nat.zero_mul, Nat.zero_add, List.getElem?_append_left (by rw [hf]; exact hj)]
    | succ i =>
      simp at h
      rw [List.getElem?_append_right (by rw [hf, Nat.succ_mul]; omega), hf, show (i + 1) * k + j - k = i * k + j by rw [Nat.succ_mul]; omega]
      exact ih i x j h hj
/-- A row as it is read. -/
theorem Qf.view {α : Type} {T : TypeId} {k : Nat} {f : α → List Value} {w : World} {B : Nat} {v : Value} {xs : List α} (h : Qf T k f w B v xs) (hf : ∀ x, (f x).length = k) {β : Type} (r : α → β) {A : World → Nat → Nat → β → Prop}
    (hA : ∀ g p x, x ∈ xs → (∀ j u, (f x)[j]? = some u → w.cell? ⟨g, p + j, none⟩ = some u) → A w g p (r x)) : ∃ a c, v = .slice a xs.length c ∧ Vw A k w a xs.length (xs.map r) := by
  rcases h.2 with ⟨h1, h2⟩ | ⟨g, cap, cur, hv, hg, hb, hn, hm, hs, ht⟩
  · have e : xs = [] := List.length_eq_zero_iff.1 h2
    subst e
    exact ⟨none, 0, h1, Vw.empty _ _ _⟩
  · refine ⟨_, _, hv, ⟨by simp, g, 0, fun _ => rfl, fun i y hy => ?_⟩⟩
    rw [List.getElem?_map] at hy
    cases hx : xs[i]? with
    | none => rw [hx] at hy; cases hy
    | some x =>
      rw [hx] at hy
      simp at hy
      subst hy
      refine hA g _ x (List.mem_of_getElem? hx) (fun j u hu => ?_)
      have hj : j < k := by
        have := (List.getElem?_eq_some_iff.1 hu).1
        rw [hf] at this
        exact this
      rw [Nat.zero_add]
      have hh : w.ownsRow B T k (.slice (some ⟨g, 0, none⟩) xs.length cap) xs.length (xs.flatMap f) := hv ▸ h
      have hi := (List.getElem?_eq_some_iff.1 hx).1
      rw [hh.cellAt (i * k + j) (by
        have : (i + 1) * k ≤ xs.length * k := Nat.mul_le_mul_right _ hi
        rw [Nat.succ_mul] at this
        omega), flat_at hf xs i x j hx hj]
      exact hu
theorem wpList_addQ {w : World} {ops : Array Oper} {rest : List Oper} {o : Oper} {a : Act} {Q : Exit → Act → World → Prop} {α : Type} (T tS : TypeId) (k bytes : Nat) (z : Value) (f : α → List Value) (hgd : o.guard = none) (sl x : Operand)
    (ho : o.op = .call { callee := .builtin .append, args := #[sl, x], argTypes := #[tS, tS] }) (hu : Tryd.prog.underlying tS = some (.slice T)) (hinfo : (Tryd.prog.info? T).map (fun i => (i.zero, i.size, i.bytes)) = some (some z, k, bytes)) (hz : z.cells.size = k) (hk : 0 < k) (hby : bytes ≤ 100)
    (hf : ∀ x, (f x).length = k) (B : Nat) (v : Value) (xs : List α) (y : α) (hs : a.eval sl = v) (hown : Qf T k f w B v xs) (h1 : ∀ u ∈ f y, u.oneCell' = true) (g : Nat) (hx : a.eval x = .slice (some ⟨g, 0, none⟩) 1 1) (hc : ∀ j u, (f y)[j]? = some u → w.cell? ⟨g, j, none⟩ = some u) (hl : xs.length ≤ 100000000) (hB : B ≤ w.heap.size)
    (h : ∀ v' w', Qf T k f w' B v' (xs ++ [y]) → w.grownBy w' v.ownBlock → wpList Tryd.prog ops Q rest (a.put o.dst v') w') : wpList Tryd.prog ops Q (o :: rest) a w := by
  obtain ⟨i0, hi, hz0, hz1, hz2⟩ := info_parts hinfo
  have hb2 : (xs.length + 1) * bytes ≤ 100000001 * 100 := Nat.mul_le_mul (by omega) hby
  refine wpList_append_own w hgd sl x tS ho B T i0 z k bytes hu hi hz0 hz1 hz2 hz hk v xs.length (xs.flatMap f) hs hown ⟨g, 0, none⟩ 1 1 (f y) hx (by rw [hf, Nat.one_mul]) (fun j u hu => ?_) h1 (by unfold maxLen; omega) (by omega) hB (fun v' w' h2 h3 _ => ?_)
  · rw [show (⟨g, 0, none⟩ : Addr).add j = ⟨g, j, none⟩ by unfold Addr.add; split <;> simp_all]
    exact hc j u hu
  · refine h v' w' ?_ h3
    show w'.ownsRow B T k v' (xs ++ [y]).length ((xs ++ [y]).flatMap f)
    rw [List.length_append, List.flatMap_append, show [y].flatMap f = f y by simp]
    exact h2

theorem cells_new (w : World) (cs : List Value) (T : TypeId) : ∀ j u, cs[j]? = some u → (w.alloc (.cells cs.toArray T)).cell? ⟨w.heap.size, j, none⟩ = some u := by
  intro j u h
  have e := heap_alloc_new w (.cells cs.toArray T)
  simp only [World.cell?, e]
  simpa using h
def fL (x : Lp) : List Value := [.int .i64 x.1, .int .i64 x.2.1, .int .i64 x.2.2]
theorem info_Lp : (Tryd.prog.info? 65).map (fun i => (i.zero, i.size, i.bytes)) = some (some (.agg #[.int .i64 0, .int .i64 0, .int .i64 0]), 3, 24) := by kernel_rfl
/-- The loop that begins at an instruction; those of the first instructions. -/
def lpK (co : List Ins) (k : Nat) (i : Ins) : List Lp := if i.1 = 19 then (if ahB co.length (k : Int) i = true then (if prB co (k : Int) i = true then [((k : Int), i.2.2.2 - 1, i.2.2.1)] else []) else []) else []
def prT (co : List Ins) : Nat → List Lp
  | 0 => []
  | n + 1 => prT co n ++ (match co[n]? with | some i => lpK co n i | none => [])
theorem prT_next {co : List Ins} {n : Nat} {x : Ins} (h : co[n]? = some x) : prT co (n + 1) = prT co n ++ lpK co n x := by
  show prT co n ++ _ = _
  rw [h]
theorem prT_len (co : List Ins) : ∀ n, (prT co n).length ≤ n
  | 0 => Nat.le_refl _
  | n + 1 => by
    have := prT_len co n
    show (prT co n ++ _).length ≤ _
    rw [List.length_append]
    split
    · rename_i i _
      have : (lpK co n i).length ≤ 1 := by
        unfold lpK
        split
        · split
          · split <;> simp
          · simp
        · simp
      omega
    · simp; omega
/-- Between two rounds of pairs. -/
structure PI (w wr : World) (v : Value) (ls : List Lp) : Prop where
  row : Qf 65 3 fL wr w.heap.size v ls
  bl : Below w.heap.size w wr
theorem PI.next {w a b : World} {v : Value} {ls : List Lp} (h : PI w a v ls) (k : Below a.heap.size a b) : PI w b v ls := ⟨h.row.next k, nxB h.bl k⟩
theorem PI.cast {w a : World} {v : Value} {ls ls' : List Lp} (h : PI w a v ls) (e : ls = ls') : PI w a v ls' := e ▸ h
theorem ah_is {n : Nat} {pc : Int} {i : Ins} (h19 : i.1 = 19) (h : ahB n pc i = true) : pc < i.2.2.2 ∧ i.2.2.2 < (n : Int) := by
  unfold ahB at h
  rw [show tgF i = (i.2.2.2, true) from by unfold tgF; rw [if_neg (by rw [h19]; decide), if_pos h19]] at h
  simp at h
  exact h
set_option maxRecDepth 100000 in
set_option maxHeartbeats 8000000 in
theorem pairs_any {w : World} {c : Nat} {s : S7} {p : Pg} {lv : Value} {st sk : Int} (hC : Ck w c s lv st sk) (hP : Pv w s p) (hT : RT w) (hn : s.m6 ≤ 1000000) (h0 : 0 < s.m6) :
    Calls Tryd.prog 23 #[.pointer (some ⟨c, 0, none⟩)] w fun e w' => ∃ v, e = .returned v ∧ PI w w' v (prT p.co p.co.length) := by
  have L := hid hP.k6.len
  have C := hid hC
  have V := hid hP
  have T := hid hT
  obtain ⟨g, o, ea, hI⟩ := ins_all hP.k6 h0
  have IC := hid hI
  have c6 : w.cell? ⟨c, 6, none⟩ = some (.slice (some ⟨g, o, none⟩) s.m6 s.c6) := by rw [← ea]; exact hC.cell 6 _ rfl
  have mb : (s.m6 : Int) ≤ 1000000 := by omega
  have N6 := hid hn
  have Z6 := hid h0
  clear hC hP hT hI ea h0 hn
  go_enter Tryd.func23, Tryd.ntmps23
  go_wp2_with fail
  go_loopg [3, 12] (s.m6) (fun g rv kv wr => ∃ i : Nat, i ≤ s.m6 ∧ g = s.m6 - i ∧ kv = .int .i64 (i : Nat) ∧ Hid (PI w wr rv (prT p.co i)))
  case atStart => exact ⟨0, Nat.zero_le _, rfl, rfl, ⟨Qf.nil _ _ _ _ _, Below.refl _ _⟩⟩
  case round =>
    obtain ⟨i, hi, rfl, rfl, HI⟩ := hrel
    by_cases q : i < s.m6
    · have q' : (i : Int) < (s.m6 : Int) := by omega
      obtain ⟨x, hx⟩ := Vw.ex V.out.k6 q
      obtain ⟨h0, h1, h2, h3⟩ := IC.out i x hx
      have k0 := celB HI.out.bl h0
      have k1 := celB HI.out.bl h1
      have k2 := celB HI.out.bl h2
      have k3 := celB HI.out.bl h3
      have AL := allocB wr (.cells #[.int .i64 x.1, .int .i64 x.2.1, .int .i64 x.2.2.1, .int .i64 x.2.2.2] 37)
      have X3 := hid (Bx.new wr #[.int .i64 x.1, .int .i64 x.2.1, .int .i64 x.2.2.1, .int .i64 x.2.2.2] 37 (by decide))
      have I3 := hid (HI.out.next AL)
      have HX := hid (prT_next hx)
      have KA := hid (fun W (b : Below w.heap.size w W) => isAhead_any (Bx.next C.out b) (V.out.next b) (T.out.next b) N6.out (i : Int) x)
      have KB := hid (fun W (b : Below w.heap.size w W) h => isPaired_any (Bx.next C.out b) (V.out.next b) (T.out.next b) N6.out Z6.out i q x h)
      have KN := hid (fun W (b : Below w.heap.size w W) => code_Name_any x.1 W (T.out.next b))
      obtain ⟨nm, hnm⟩ : ∃ nm, opN x.1 = nm := ⟨_, rfl⟩
      rw [hnm] at KN
      rw [L.out] at KA
      clear h0 h1 h2 h3 hx AL HI
      by_cases h19 : x.1 = 19
      · cases za : ahB s.m6 (i : Int) x with
        | true =>
          obtain ⟨a1, a2⟩ := ah_is h19 za
          have KB := hid (fun W b => KB.out W b (fun _ => ⟨a1, a2⟩))
          cases zb : prB p.co (i : Int) x with
          | true =>
            have HX := hid (show prT p.co (i + 1) = prT p.co i ++ [((i : Int), x.2.2.2 - 1, x.2.2.1)] from by rw [HX.out]; unfold lpK; rw [if_pos h19, L.out, if_pos za, if_pos zb])
            have ZA := hid za
            have ZB := hid zb
            have z19 : (nm.toList == [102, 105, 114, 115, 116]) = true := by rw [← hnm]; exact nm_yes x.1 19 _ rfl h19
            clear h19 hnm zb
            go_upto_region 5 with fail
            clear k0 k1 k2 k3
            generalize World.alloc wr _ = w3 at *
            generalize wr.heap.size = xb at *
            obtain ⟨x0, x1, x2, x3⟩ := Bx.q4 X3.out
            have KM := hid (KN.out w3 I3.out.bl)
            go_upto_region 6 with (first | (go_at_call 21; (with_reducible refine Calls.mono KM.out ?_); rintro e w4 ⟨rfl, b4⟩; have I4 := hid (I3.out.next b4); have X4 := hid (Bx.next X3.out b4); obtain ⟨y0, y1, y2, y3⟩ := Bx.q4 X4.out; have KA4 := hid (KA.out w4 I4.out.bl); rw [za] at KA4; clear b4 KM x0 x1 x2 x3) | (go_at_call 24; (with_reducible refine Calls.mono KA4.out ?_); rintro e w5 ⟨rfl, b5⟩; have I5 := hid (I4.out.next b5); have X5 := hid (Bx.next X4.out b5); clear y0 y1 y2 y3; obtain ⟨y0, y1, y2, y3⟩ := Bx.q4 X5.out; have KB5 := hid (KB.out w5 I5.out.bl); rw [ZB.out] at KB5; clear b5 KA4) | (go_at_call 25; (with_reducible refine Calls.mono KB5.out ?_); rintro e w6 ⟨rfl, b6⟩; have I6 := hid (I5.out.next b6); have X6 := hid (Bx.next X5.out b6); clear y0 y1 y2 y3; obtain ⟨y0, y1, y2, y3⟩ := Bx.q4 X6.out; clear b6 KB5))
            have d1 : x.2.2.2 ≤ 1000000 := by omega
            have d0 : 1 ≤ x.2.2.2 := by omega
            have AL := allocB w6 (.cells (fL ((i : Int), x.2.2.2 - 1, x.2.2.1)).toArray 65)
            have O7 := hid (I6.out.next AL)
            have C7 := hid (cells_new w6 (fL ((i : Int), x.2.2.2 - 1, x.2.2.1)) 65)
            have LX := hid (show (prT p.co i).length ≤ 100000000 from by have := prT_len p.co i; have := N6.out; omega)
            have SZ := hid (O7.out.bl.size)
            clear AL za
            go_wp2_with (at_builtin; refine wpList_addQ 65 42 3 24 (.agg #[.int .i64 0, .int .i64 0, .int .i64 0]) fL rfl (.tmp 33) (.tmp 41) rfl Tryd.underlying42 info_Lp rfl (by decide) (by decide) (fun _ => rfl) w.heap.size _ (prT p.co i) ((i : Int), x.2.2.2 - 1, x.2.2.1) rfl O7.out.row (fun u hu => by simp [fL] at hu; rcases hu with rfl | rfl | rfl <;> rfl) w6.heap.size rfl C7.out LX.out SZ.out ?_; intro v8 w8 o8 g8)
            have O8 := hid o8
            have B8 := hid (O7.out.bl.grown g8 O7.out.bl.size (fun k hk => (O7.out.row.ty k hk).1))
            clear o8 g8
            go_roundg (s.m6 - (i + 1))
            case measure => omega
            case rel => exact ⟨i + 1, by omega, rfl, by rw [Int.natCast_add]; rfl, PI.cast ⟨O8.out, B8.out⟩ HX.out.symm⟩
          | false =>
            have HX := hid (show prT p.co (i + 1) = prT p.co i from by rw [HX.out]; unfold lpK; rw [if_pos h19, L.out, if_pos za, if_neg (by rw [zb]; decide), List.append_nil])
            have ZB := hid zb
            have z19 : (nm.toList == [102, 105, 114, 115, 116]) = true := by rw [← hnm]; exact nm_yes x.1 19 _ rfl h19
            clear h19 hnm zb
            go_upto_region 5 with fail
            clear k0 k1 k2 k3
            generalize World.alloc wr _ = w3 at *
            generalize wr.heap.size = xb at *
            obtain ⟨x0, x1, x2, x3⟩ := Bx.q4 X3.out
            have KM := hid (KN.out w3 I3.out.bl)
            go_wp2_with (first | (go_at_call 21; (with_reducible refine Calls.mono KM.out ?_); rintro e w4 ⟨rfl, b4⟩; have I4 := hid (I3.out.next b4); have X4 := hid (Bx.next X3.out b4); obtain ⟨y0, y1, y2, y3⟩ := Bx.q4 X4.out; have KA4 := hid (KA.out w4 I4.out.bl); rw [za] at KA4; clear b4 KM x0 x1 x2 x3) | (go_at_call 24; (with_reducible refine Calls.mono KA4.out ?_); rintro e w5 ⟨rfl, b5⟩; have I5 := hid (I4.out.next b5); have X5 := hid (Bx.next X4.out b5); clear y0 y1 y2 y3; obtain ⟨y0, y1, y2, y3⟩ := Bx.q4 X5.out; have KB5 := hid (KB.out w5 I5.out.bl); rw [ZB.out] at KB5; clear b5 KA4) | (go_at_call 25; (with_reducible refine Calls.mono KB5.out ?_); rintro e w6 ⟨rfl, b6⟩; have I6 := hid (I5.out.next b6); clear b6 KB5))
            go_roundg (s.m6 - (i + 1))
            case measure => omega
            case rel => exact ⟨i + 1, by omega, rfl, by rw [Int.natCast_add]; rfl, I6.out.cast HX.out.symm⟩
        | false =>
          have HX := hid (show prT p.co (i + 1) = prT p.co i from by rw [HX.out]; unfold lpK; rw [if_pos h19, L.out, if_neg (by rw [za]; decide), List.append_nil])
          have z19 : (nm.toList == [102, 105, 114, 115, 116]) = true := by rw [← hnm]; exact nm_yes x.1 19 _ rfl h19
          clear h19 hnm
          go_upto_region 5 with fail
          clear k0 k1 k2 k3
          generalize World.alloc wr _ = w3 at *
          generalize wr.heap.size = xb at *
          obtain ⟨x0, x1, x2, x3⟩ := Bx.q4 X3.out
          have KM := hid (KN.out w3 I3.out.bl)
          go_wp2_with (first | (go_at_call 21; (with_reducible refine Calls.mono KM.out ?_); rintro e w4 ⟨rfl, b4⟩; have I4 := hid (I3.out.next b4); have X4 := hid (Bx.next X3.out b4); obtain ⟨y0, y1, y2, y3⟩ := Bx.q4 X4.out; have KA4 := hid (KA.out w4 I4.out.bl); rw [za] at KA4; clear b4 KM x0 x1 x2 x3) | (go_at_call 24; (with_reducible refine Calls.mono KA4.out ?_); rintro e w5 ⟨rfl, b5⟩; have I5 := hid (I4.out.next b5); have X5 := hid (Bx.next X4.out b5); clear y0 y1 y2 y3; obtain ⟨y0, y1, y2, y3⟩ := Bx.q4 X5.out;  clear b5 KA4))
          go_roundg (s.m6 - (i + 1))
          case measure => omega
          case rel => exact ⟨i + 1, by omega, rfl, by rw [Int.natCast_add]; rfl, I5.out.cast HX.out.symm⟩
      · have HX := hid (show prT p.co (i + 1) = prT p.co i from by rw [HX.out]; unfold lpK; rw [if_neg h19, List.append_nil])
        have z19 : (nm.toList == [102, 105, 114, 115, 116]) = false := by rw [← hnm]; exact nm_no x.1 19 _ rfl h19
        clear h19 hnm
        go_upto_region 5 with fail
        clear k0 k1 k2 k3
        generalize World.alloc wr _ = w3 at *
        generalize wr.heap.size = xb at *
        obtain ⟨x0, x1, x2, x3⟩ := Bx.q4 X3.out
        have KM := hid (KN.out w3 I3.out.bl)
        go_wp2_with ((go_at_call 21; (with_reducible refine Calls.mono KM.out ?_); rintro e w4 ⟨rfl, b4⟩; have I4 := hid (I3.out.next b4); clear b4 KM))
        go_roundg (s.m6 - (i + 1))
        case measure => omega
        case rel => exact ⟨i + 1, by omega, rfl, by rw [Int.natCast_add]; rfl, I4.out.cast HX.out.symm⟩
    · have q' : ¬ (i : Int) < (s.m6 : Int) := by omega
      have e0 : i = p.co.length := by have := L.out; omega
      have HE := hid e0
      clear e0
      go_wp2_with fail
      go_ret
      exact ⟨_, rfl, by rw [← HE.out]; exact HI.out⟩

end Go.Proofs.YtjkbiglnpoeddaaDoor.Vf
