/- The walk over verify's lengths. -/
import Derived.Test.YtjkbiglnpoeddaaDoorVfv
namespace Go.Proofs.YtjkbiglnpoeddaaDoor.Vf
open Go.RowKit
set_option linter.unusedVariables false
set_option linter.unusedSimpArgs false

def atM (m : List Int) (pc : Nat) (t : Int) : Int := m.getD (t.toNat - (pc + 1)) 0
def bhF (pc : Nat) (i : Ins) (m : List Int) : Int := if i.1 = 23 ∨ i.1 = 20 then 0 else if i.1 = 17 then atM m pc i.2.1 else if i.1 = 19 then 16 * atM m pc ((pc : Int) + 1) + atM m pc i.2.2.2 else atM m pc ((pc : Int) + 1)
def mnF (x : Int) : Int := if 1099511627777 < x then 1099511627777 else x
/-- Of each place the most steps to the halt or to the loop's next. -/
def lnS : Nat → List Ins → List Int
  | _, [] => []
  | pc, i :: r => mnF (1 + bhF pc i (lnS (pc + 1) r)) :: lnS (pc + 1) r
theorem lnS_len : ∀ (l : List Ins) (pc : Nat), (lnS pc l).length = l.length
  | [], _ => rfl
  | i :: r, pc => by show (lnS (pc + 1) r).length + 1 = _; rw [lnS_len r]; rfl
theorem atM_le {m : List Int} (h : ∀ x, x ∈ m → 0 ≤ x ∧ x ≤ 1099511627777) (pc : Nat) (t : Int) : 0 ≤ atM m pc t ∧ atM m pc t ≤ 1099511627777 := by
  unfold atM
  rw [List.getD_eq_getElem?_getD]
  cases e : m[t.toNat - (pc + 1)]? with
  | none => exact ⟨Int.le_refl _, by decide⟩
  | some x => exact h x (List.mem_of_getElem? e)
theorem bh_le {m : List Int} (h : ∀ x, x ∈ m → 0 ≤ x ∧ x ≤ 1099511627777) (pc : Nat) (i : Ins) : 0 ≤ bhF pc i m ∧ bhF pc i m ≤ 17 * 1099511627777 := by
  have a := atM_le h pc i.2.1
  have b := atM_le h pc i.2.2.2
  have c := atM_le h pc ((pc : Int) + 1)
  unfold bhF
  split
  · omega
  split
  · omega
  split <;> omega
theorem lnS_le : ∀ (l : List Ins) (pc : Nat), ∀ x, x ∈ lnS pc l → 0 ≤ x ∧ x ≤ 1099511627777
  | [], _, x, h => by simp [lnS] at h
  | i :: r, pc, x, h => by
    have ih := lnS_le r (pc + 1)
    rcases List.mem_cons.1 (show x ∈ mnF (1 + bhF pc i (lnS (pc + 1) r)) :: lnS (pc + 1) r from h) with h | h
    · have := bh_le ih pc i
      subst h
      unfold mnF
      split <;> omega
    · exact ih x h
def lenF (p : Pg) : Int := (lnS 0 p.co).getD 0 0
/-- The row of lengths in memory, filled from a place on. -/
structure SM (w : World) (mb n pc : Nat) (M : List Int) : Prop where
  cs : ∀ (j : Nat) x, M[j]? = some x → w.cell? ⟨mb, pc + j, none⟩ = some (.int .i64 x)
  ex : ∀ j, j < n → ∃ v, w.cell? ⟨mb, j, none⟩ = some (.int .i64 v)
  fz : ∀ j, w.frozen? ⟨mb, j, none⟩ = false
  lt : mb < w.heap.size
theorem SM.next {w w' : World} {mb n pc : Nat} {M : List Int} (h : SM w mb n pc M) (k : Below w.heap.size w w') : SM w' mb n pc M :=
  ⟨fun j x hj => celB k (h.cs j x hj), fun j hj => by obtain ⟨v, e⟩ := h.ex j hj; exact ⟨v, celB k e⟩, fun j => (World.frozen?_of_block (a := ⟨mb, j, none⟩) (k.block mb h.lt)).trans (h.fz j), Nat.lt_of_lt_of_le h.lt k.size⟩
theorem SM.set {w : World} {mb n pc : Nat} {M : List Int} (h : SM w mb n (pc + 1) M) (hp : pc < n) (x : Int) : SM (w.setCell ⟨mb, pc, none⟩ (.int .i64 x)) mb n pc (x :: M) := by
  obtain ⟨v, e⟩ := h.ex pc hp
  have es := World.cell?_setCell_same _ _ (.int .i64 x) e
  refine ⟨fun j y hj => ?_, fun j hj => ?_, fun j => by rw [fz_set]; exact h.fz j, by simpa using h.lt⟩
  · cases j with
    | zero => simp at hj; subst hj; exact es
    | succ j =>
      rw [cell_other (Or.inr (by show pc ≠ pc + (j + 1); omega))]
      have := h.cs j y (by simpa using hj)
      rw [show pc + (j + 1) = pc + 1 + j by omega]
      exact this
  · by_cases q : pc = j
    · subst q; exact ⟨x, es⟩
    · rw [cell_other (Or.inr q)]; exact h.ex j hj
theorem info_I64v : (Tryd.prog.info? 2).map (fun i => (i.zero, i.size, i.bytes)) = some (some (.int .i64 0), 1, 8) := by kernel_rfl
theorem make_i64s (w : World) (n : Nat) (h : n ≤ 100000) : ∃ o, (Instr.makeSlice 51 (.int .i64 (n : Nat)) (.int .i64 (n : Nat))).run Tryd.prog w = .ok (.slice (some ⟨w.heap.size, 0, none⟩) n n) (w.alloc (.cells o 2)) ∧ SM (w.alloc (.cells o 2)) w.heap.size n n [] := by
  obtain ⟨i0, hi, hz0, hz1, hz2⟩ := info_parts info_I64v
  have hr := run_make (P := Tryd.prog) w 51 2 i0 _ Tryd.underlying51 hi hz0 .i64 .i64 n n (by omega) (Int.le_refl _) (by rw [hz2]; omega) (by omega)
  rw [hz1, Int.toNat_natCast] at hr
  refine ⟨_, hr, fun j x hj => by simp at hj, fun j hj => ⟨0, ?_⟩, fun j => ?_, by simp⟩
  · simp only [World.cell?, heap_alloc_new]
    show (madeCells #[.int .i64 0] (n * 1))[j]? = _
    rw [← Array.getElem?_toList, toList_madeCells_one, List.getElem?_replicate, if_pos (by omega)]
  · simp only [World.frozen?, heap_alloc_new]
    simp
/-- Between two rounds of lengths. -/
structure LN (w wr : World) (mb n k : Nat) (co : List Ins) : Prop where
  bl : Below w.heap.size w wr
  sm : SM wr mb n k (lnS k (co.drop k))
theorem LN.next {w a b : World} {mb n k : Nat} {co : List Ins} (h : LN w a mb n k co) (q : Below a.heap.size a b) : LN w b mb n k co := ⟨nxB h.bl q, h.sm.next q⟩
theorem lnS_drop {co : List Ins} {k : Nat} {x : Ins} (hx : co[k]? = some x) : lnS k (co.drop k) = mnF (1 + bhF k x (lnS (k + 1) (co.drop (k + 1)))) :: lnS (k + 1) (co.drop (k + 1)) := by
  have hi : k < co.length := (List.getElem?_eq_some_iff.1 hx).1
  have e : co[k] = x := (List.getElem?_eq_some_iff.1 hx).2
  rw [List.drop_eq_getElem_cons hi, e]
  rfl
theorem LN.at_ {w a : World} {mb n k : Nat} {co : List Ins} (h : LN w a mb n (k + 1) co) (hn : co.length = n) {t : Nat} (h1 : k + 1 ≤ t) (h2 : t < n) : a.cell? ⟨mb, t, none⟩ = some (.int .i64 (atM (lnS (k + 1) (co.drop (k + 1))) k (t : Int))) := by
  have hl : t - (k + 1) < (lnS (k + 1) (co.drop (k + 1))).length := by rw [lnS_len, List.length_drop]; omega
  have := h.sm.cs (t - (k + 1)) _ (List.getElem?_eq_getElem hl)
  rw [show k + 1 + (t - (k + 1)) = t by omega] at this
  rw [this]
  unfold atM
  rw [Int.toNat_natCast, List.getD_eq_getElem?_getD, List.getElem?_eq_getElem hl]
  rfl
theorem LN.put {w a : World} {mb n k : Nat} {co : List Ins} (h : LN w a mb n (k + 1) co) (hm : mb = w.heap.size) {x : Ins} (hx : co[k]? = some x) (hk : k < n) {V : Int} (hV : V = mnF (1 + bhF k x (lnS (k + 1) (co.drop (k + 1))))) : LN w (a.setCell ⟨mb, k, none⟩ (.int .i64 V)) mb n k co := by
  refine ⟨((Kx.of [mb] h.bl).set (p := mb) _ (by simp)).bel (Nat.le_refl _) (fun i hi => by simp at hi; omega), ?_⟩
  rw [lnS_drop hx, ← hV]
  exact h.sm.set hk V
set_option maxRecDepth 100000 in
set_option maxHeartbeats 8000000 in
theorem lengths_any {W0 w : World} {c : Nat} {s : S7} {p : Pg} {lv : Value} {st sk : Int} (hP0 : Pv W0 s p) (hT0 : RT W0) (hB0 : Below W0.heap.size W0 w) (hC : Ck w c s lv st sk) (hn : s.m6 ≤ 99999) (h0 : 0 < s.m6) (hR : ∀ x, x ∈ p.co → Rst x.1)
    (hW : ∀ (k : Nat) x, p.co[k]? = some x → (x.1 = 17 → (k : Int) < x.2.1 ∧ x.2.1 < (s.m6 : Int)) ∧ (x.1 = 19 → (k : Int) < x.2.2.2 ∧ x.2.2.2 < (s.m6 : Int)) ∧ (¬ x.1 = 23 → k + 1 < s.m6)) :
    Calls Tryd.prog 14 #[.pointer (some ⟨c, 0, none⟩)] w fun e w' => e = .returned (.tuple #[.int .i64 (-1), .bool (decide (lenF p ≤ 1099511627776))]) ∧ StP w w' c s lv (lenF p) sk := by
  have L := hid (hP0.next hB0).k6.len
  have C := hid hC
  have HW := hid hW
  have HR := hid hR
  have T := hid (hT0.next hB0)
  obtain ⟨g, o, ea, hI⟩ := ins_all (hP0.next hB0).k6 h0
  have IC := hid hI
  have VX := hid (fun i (hi : i < s.m6) => Vw.ex hP0.k6 hi)
  have c6 : w.cell? ⟨c, 6, none⟩ = some (.slice (some ⟨g, o, none⟩) s.m6 s.c6) := by rw [← ea]; exact hC.cell 6 _ rfl
  have C6 := hid c6
  have CL := hid (Bx.lt hC)
  have mb9 : (s.m6 : Int) ≤ 99999 := by omega
  have m0 : (0 : Int) < (s.m6 : Int) := by omega
  have Z6 := hid h0
  obtain ⟨o1, mk1, sm1⟩ := make_i64s w s.m6 (by omega)
  have A1 := allocB w (.cells o1 2)
  have F1 := hid (show LN w (w.alloc (.cells o1 2)) w.heap.size s.m6 s.m6 p.co from ⟨A1, by rw [List.drop_of_length_le (by have := L.out; omega)]; exact sm1⟩)
  clear hP0 hT0 hB0 hC hn h0 hR hW ea hI sm1 A1
  go_enter Tryd.func14, Tryd.ntmps14
  go_upto_region 3 with fail
  have MB := hid (show w.heap.size ≠ c from by have := CL.out; omega)
  have ML := hid (Nat.le_refl w.heap.size)
  have ML : Hid (w.heap.size ≤ w.heap.size) := ML
  clear c6 mk1
  generalize World.alloc w _ = w1 at *
  obtain ⟨mb, hmb⟩ : ∃ mb, mb = w.heap.size := ⟨_, rfl⟩
  rw [← hmb] at F1 MB ⊢
  have WB := hid hmb
  clear hmb ML
  go_wp2_with fail
  go_loopg [6] (s.m6) (fun g kv wr => ∃ k : Nat, k ≤ s.m6 ∧ g = k ∧ kv = .int .i64 ((k : Int) - 1) ∧ Hid (LN w wr mb s.m6 k p.co))
  case atStart => exact ⟨s.m6, Nat.le_refl _, rfl, rfl, F1.out⟩
  case round =>
    obtain ⟨k, hk, hg9, rfl, HF⟩ := hrel
    replace hg9 := hg9.symm
    subst hg9
    by_cases q : 0 < k
    · obtain ⟨pc, rfl⟩ : ∃ pc, k = pc + 1 := ⟨k - 1, by omega⟩
      rw [show (((pc + 1 : Nat) : Int) - 1) = (pc : Int) from by omega]
      have pc0 : (0 : Int) ≤ (pc : Int) := by omega
      have pc1 : (pc : Int) < (s.m6 : Int) := by omega
      have PL := hid (show pc < s.m6 from by omega)
      obtain ⟨x, hx⟩ := VX.out pc PL.out
      obtain ⟨h0, h1, h2, h3⟩ := IC.out pc x hx
      have k0 := celB HF.out.bl h0
      have k1 := celB HF.out.bl h1
      have k2 := celB HF.out.bl h2
      have k3 := celB HF.out.bl h3
      have d6 := celB HF.out.bl C6.out
      have X3 := hid (Bx.new wr #[.int .i64 x.1, .int .i64 x.2.1, .int .i64 x.2.2.1, .int .i64 x.2.2.2] 37 (by decide))
      have F3 := hid (HF.out.next (allocB wr (.cells #[.int .i64 x.1, .int .i64 x.2.1, .int .i64 x.2.2.1, .int .i64 x.2.2.2] 37)))
      have KN := hid (code_Name_any x.1 _ (T.out.next F3.out.bl))
      have HXX := hid hx
      obtain ⟨nm, hnm⟩ : ∃ nm, opN x.1 = nm := ⟨_, rfl⟩
      rw [hnm] at KN
      have hr := HR.out x (List.mem_of_getElem? hx)
      clear h0 h1 h2 h3 HF
      rcases hr with hop | hop | hop | hop | hop
      · have hx9 : x.1 = 9 := hop
        have n23 : ¬ x.1 = 23 := by rw [hop]; decide
        have n20 : ¬ x.1 = 20 := by rw [hop]; decide
        have n17 : ¬ x.1 = 17 := by rw [hop]; decide
        have n18 : ¬ x.1 = 18 := by rw [hop]; decide
        have n19 : ¬ x.1 = 19 := by rw [hop]; decide
        have z23 : (nm.toList == [104, 97, 108, 116]) = false := by rw [← hnm]; exact nm_no x.1 23 _ rfl n23
        have z20 : (nm.toList == [110, 101, 120, 116]) = false := by rw [← hnm]; exact nm_no x.1 20 _ rfl n20
        have z17 : (nm.toList == [106, 117, 109, 112]) = false := by rw [← hnm]; exact nm_no x.1 17 _ rfl n17
        have z18 : (nm.toList == [117, 110, 108, 101, 115, 115]) = false := by rw [← hnm]; exact nm_no x.1 18 _ rfl n18
        have z19 : (nm.toList == [102, 105, 114, 115, 116]) = false := by rw [← hnm]; exact nm_no x.1 19 _ rfl n19
        have BH := hid (show bhF pc x (lnS (pc + 1) (p.co.drop (pc + 1))) = atM (lnS (pc + 1) (p.co.drop (pc + 1))) pc ((pc : Int) + 1) from by unfold bhF; rw [hop]; rfl)
        have TB := hid (show pc + 1 < s.m6 from (HW.out pc x hx).2.2 (by rw [hop]; decide))
        have tb1 : (pc : Int) + 1 < (s.m6 : Int) := by have := TB.out; omega
        clear hx9 hop hx hnm n23 n20 n17 n18 n19
        go_upto_region 8 with fail
        clear k0 k1 k2 k3
        generalize World.alloc wr _ = w3 at *
        generalize wr.heap.size = xb at *
        obtain ⟨x0, x1, x2, x3⟩ := Bx.q4 X3.out
        go_upto_region 10 with (go_at_call 21; (with_reducible refine Calls.mono KN.out ?_); rintro e w4 ⟨rfl, b4⟩; have F4 := hid (F3.out.next b4); have X4 := hid (Bx.next X3.out b4); clear b4)
        clear x0 x1 x2 x3 KN X3
        obtain ⟨x0, x1, x2, x3⟩ := Bx.q4 X4.out
        have u2 := F4.out.at_ L.out (Nat.le_refl _) TB.out
        rw [Int.natCast_add] at u2
        have M9 := hid (lnS_le (p.co.drop (pc + 1)) (pc + 1))
        generalize hM : lnS (pc + 1) (p.co.drop (pc + 1)) = M at *
        have HM := hid hM
        clear hM
        have b1 := atM_le M9.out pc ((pc : Int) + 1)
        generalize atM M pc ((pc : Int) + 1) = vb at *
        obtain ⟨b1, b2⟩ := b1
        obtain ⟨vo, e5⟩ := F4.out.sm.ex pc PL.out
        have f5 := F4.out.sm.fz
        go_wp2_with fail
        all_goals (go_roundg pc)
        all_goals first | omega | exact ⟨pc, by omega, rfl, rfl, hid (LN.put F4.out WB.out HXX.out PL.out (by rw [HM.out, BH.out]; unfold mnF; split <;> omega))⟩
      · have hx9 : x.1 = 17 := hop
        have n23 : ¬ x.1 = 23 := by rw [hop]; decide
        have n20 : ¬ x.1 = 20 := by rw [hop]; decide
        have z17 : (nm.toList == [106, 117, 109, 112]) = true := by rw [← hnm]; exact nm_yes x.1 17 _ rfl hop
        have z23 : (nm.toList == [104, 97, 108, 116]) = false := by rw [← hnm]; exact nm_no x.1 23 _ rfl n23
        have z20 : (nm.toList == [110, 101, 120, 116]) = false := by rw [← hnm]; exact nm_no x.1 20 _ rfl n20
        have BH := hid (show bhF pc x (lnS (pc + 1) (p.co.drop (pc + 1))) = atM (lnS (pc + 1) (p.co.drop (pc + 1))) pc x.2.1 from by unfold bhF; rw [hop]; rfl)
        obtain ⟨ta, hta⟩ : ∃ ta : Nat, x.2.1 = ta := ⟨x.2.1.toNat, by have := (HW.out pc x hx).1 hop; omega⟩
        have TA := hid (show pc + 1 ≤ ta ∧ ta < s.m6 from by have := (HW.out pc x hx).1 hop; omega)
        have HD := hid hta
        rw [HD.out] at BH
        have ta1 : (ta : Int) < (s.m6 : Int) := by have := TA.out; omega
        clear hta
        clear hx9 hop hx hnm n23 n20
        go_upto_region 8 with fail
        clear k0 k1 k2 k3
        generalize World.alloc wr _ = w3 at *
        generalize wr.heap.size = xb at *
        obtain ⟨x0, x1, x2, x3⟩ := Bx.q4 X3.out
        rw [HD.out] at x1
        go_upto_region 10 with (go_at_call 21; (with_reducible refine Calls.mono KN.out ?_); rintro e w4 ⟨rfl, b4⟩; have F4 := hid (F3.out.next b4); have X4 := hid (Bx.next X3.out b4); clear b4)
        clear x0 x1 x2 x3 KN X3
        obtain ⟨x0, x1, x2, x3⟩ := Bx.q4 X4.out
        rw [HD.out] at x1
        have u1 := F4.out.at_ L.out TA.out.1 TA.out.2
        have M9 := hid (lnS_le (p.co.drop (pc + 1)) (pc + 1))
        generalize hM : lnS (pc + 1) (p.co.drop (pc + 1)) = M at *
        have HM := hid hM
        clear hM
        have a1 := atM_le M9.out pc (ta : Int)
        generalize atM M pc (ta : Int) = va at *
        obtain ⟨a1, a2⟩ := a1
        obtain ⟨vo, e5⟩ := F4.out.sm.ex pc PL.out
        have f5 := F4.out.sm.fz
        go_wp2_with fail
        all_goals (go_roundg pc)
        all_goals first | omega | exact ⟨pc, by omega, rfl, rfl, hid (LN.put F4.out WB.out HXX.out PL.out (by rw [HM.out, BH.out]; unfold mnF; split <;> omega))⟩
      · have hx9 : x.1 = 19 := hop
        have n23 : ¬ x.1 = 23 := by rw [hop]; decide
        have n20 : ¬ x.1 = 20 := by rw [hop]; decide
        have n17 : ¬ x.1 = 17 := by rw [hop]; decide
        have n18 : ¬ x.1 = 18 := by rw [hop]; decide
        have z19 : (nm.toList == [102, 105, 114, 115, 116]) = true := by rw [← hnm]; exact nm_yes x.1 19 _ rfl hop
        have z23 : (nm.toList == [104, 97, 108, 116]) = false := by rw [← hnm]; exact nm_no x.1 23 _ rfl n23
        have z20 : (nm.toList == [110, 101, 120, 116]) = false := by rw [← hnm]; exact nm_no x.1 20 _ rfl n20
        have z17 : (nm.toList == [106, 117, 109, 112]) = false := by rw [← hnm]; exact nm_no x.1 17 _ rfl n17
        have z18 : (nm.toList == [117, 110, 108, 101, 115, 115]) = false := by rw [← hnm]; exact nm_no x.1 18 _ rfl n18
        have BH := hid (show bhF pc x (lnS (pc + 1) (p.co.drop (pc + 1))) = 16 * atM (lnS (pc + 1) (p.co.drop (pc + 1))) pc ((pc : Int) + 1) + atM (lnS (pc + 1) (p.co.drop (pc + 1))) pc x.2.2.2 from by unfold bhF; rw [hop]; rfl)
        obtain ⟨ta, hta⟩ : ∃ ta : Nat, x.2.2.2 = ta := ⟨x.2.2.2.toNat, by have := (HW.out pc x hx).2.1 hop; omega⟩
        have TA := hid (show pc + 1 ≤ ta ∧ ta < s.m6 from by have := (HW.out pc x hx).2.1 hop; omega)
        have HD := hid hta
        rw [HD.out] at BH
        have ta1 : (ta : Int) < (s.m6 : Int) := by have := TA.out; omega
        clear hta
        have TB := hid (show pc + 1 < s.m6 from by have := TA.out; omega)
        have tb1 : (pc : Int) + 1 < (s.m6 : Int) := by have := TB.out; omega
        clear hx9 hop hx hnm n23 n20 n17 n18
        go_upto_region 8 with fail
        clear k0 k1 k2 k3
        generalize World.alloc wr _ = w3 at *
        generalize wr.heap.size = xb at *
        obtain ⟨x0, x1, x2, x3⟩ := Bx.q4 X3.out
        rw [HD.out] at x3
        go_upto_region 10 with (go_at_call 21; (with_reducible refine Calls.mono KN.out ?_); rintro e w4 ⟨rfl, b4⟩; have F4 := hid (F3.out.next b4); have X4 := hid (Bx.next X3.out b4); clear b4)
        clear x0 x1 x2 x3 KN X3
        obtain ⟨x0, x1, x2, x3⟩ := Bx.q4 X4.out
        rw [HD.out] at x3
        have u1 := F4.out.at_ L.out TA.out.1 TA.out.2
        have u2 := F4.out.at_ L.out (Nat.le_refl _) TB.out
        rw [Int.natCast_add] at u2
        have M9 := hid (lnS_le (p.co.drop (pc + 1)) (pc + 1))
        generalize hM : lnS (pc + 1) (p.co.drop (pc + 1)) = M at *
        have HM := hid hM
        clear hM
        have a1 := atM_le M9.out pc (ta : Int)
        generalize atM M pc (ta : Int) = va at *
        obtain ⟨a1, a2⟩ := a1
        have b1 := atM_le M9.out pc ((pc : Int) + 1)
        generalize atM M pc ((pc : Int) + 1) = vb at *
        obtain ⟨b1, b2⟩ := b1
        obtain ⟨vo, e5⟩ := F4.out.sm.ex pc PL.out
        have f5 := F4.out.sm.fz
        go_upto_region 17 with fail
        go_quiet (fail)
        have DQ := hid (dwB w4 nq)
        have F4 := hid (F4.out.next DQ.out)
        clear DQ x0 x1 x2 x3 u1 u2 e5 f5
        generalize w4.drewN nq = w4 at *
        obtain ⟨vo, e5⟩ := F4.out.sm.ex pc PL.out
        have f5 := F4.out.sm.fz
        go_wp2_with fail
        all_goals (go_roundg pc)
        all_goals first | omega | exact ⟨pc, by omega, rfl, rfl, hid (LN.put F4.out WB.out HXX.out PL.out (by rw [HM.out, BH.out]; unfold mnF; split <;> omega))⟩
      · have hx9 : x.1 = 20 := hop
        have n23 : ¬ x.1 = 23 := by rw [hop]; decide
        have z20 : (nm.toList == [110, 101, 120, 116]) = true := by rw [← hnm]; exact nm_yes x.1 20 _ rfl hop
        have z23 : (nm.toList == [104, 97, 108, 116]) = false := by rw [← hnm]; exact nm_no x.1 23 _ rfl n23
        have BH := hid (show bhF pc x (lnS (pc + 1) (p.co.drop (pc + 1))) = 0 from by unfold bhF; rw [hop]; rfl)
        clear hx9 hop hx hnm n23
        go_upto_region 8 with fail
        clear k0 k1 k2 k3
        generalize World.alloc wr _ = w3 at *
        generalize wr.heap.size = xb at *
        obtain ⟨x0, x1, x2, x3⟩ := Bx.q4 X3.out
        go_upto_region 10 with (go_at_call 21; (with_reducible refine Calls.mono KN.out ?_); rintro e w4 ⟨rfl, b4⟩; have F4 := hid (F3.out.next b4); have X4 := hid (Bx.next X3.out b4); clear b4)
        clear x0 x1 x2 x3 KN X3
        obtain ⟨x0, x1, x2, x3⟩ := Bx.q4 X4.out
        have M9 := hid (lnS_le (p.co.drop (pc + 1)) (pc + 1))
        generalize hM : lnS (pc + 1) (p.co.drop (pc + 1)) = M at *
        have HM := hid hM
        clear hM
        obtain ⟨vo, e5⟩ := F4.out.sm.ex pc PL.out
        have f5 := F4.out.sm.fz
        go_wp2_with fail
        all_goals (go_roundg pc)
        all_goals first | omega | exact ⟨pc, by omega, rfl, rfl, hid (LN.put F4.out WB.out HXX.out PL.out (by rw [HM.out, BH.out]; unfold mnF; split <;> omega))⟩
      · have hx9 : x.1 = 23 := hop
        have z23 : (nm.toList == [104, 97, 108, 116]) = true := by rw [← hnm]; exact nm_yes x.1 23 _ rfl hop
        have BH := hid (show bhF pc x (lnS (pc + 1) (p.co.drop (pc + 1))) = 0 from by unfold bhF; rw [hop]; rfl)
        clear hx9 hop hx hnm 
        go_upto_region 8 with fail
        clear k0 k1 k2 k3
        generalize World.alloc wr _ = w3 at *
        generalize wr.heap.size = xb at *
        obtain ⟨x0, x1, x2, x3⟩ := Bx.q4 X3.out
        go_upto_region 10 with (go_at_call 21; (with_reducible refine Calls.mono KN.out ?_); rintro e w4 ⟨rfl, b4⟩; have F4 := hid (F3.out.next b4); have X4 := hid (Bx.next X3.out b4); clear b4)
        clear x0 x1 x2 x3 KN X3
        obtain ⟨x0, x1, x2, x3⟩ := Bx.q4 X4.out
        have M9 := hid (lnS_le (p.co.drop (pc + 1)) (pc + 1))
        generalize hM : lnS (pc + 1) (p.co.drop (pc + 1)) = M at *
        have HM := hid hM
        clear hM
        obtain ⟨vo, e5⟩ := F4.out.sm.ex pc PL.out
        have f5 := F4.out.sm.fz
        go_wp2_with fail
        all_goals (go_roundg pc)
        all_goals first | omega | exact ⟨pc, by omega, rfl, rfl, hid (LN.put F4.out WB.out HXX.out PL.out (by rw [HM.out, BH.out]; unfold mnF; split <;> omega))⟩
    · obtain rfl : k = 0 := by omega
      have ET := hid (show p.co.drop 0 = p.co from rfl)
      have hm := HF.out.sm.cs 0 (lenF p) (by
        rw [ET.out]
        unfold lenF
        rw [List.getD_eq_getElem?_getD, List.getElem?_eq_getElem (by rw [lnS_len, L.out]; exact Z6.out)]
        rfl)
      rw [Nat.zero_add] at hm
      have C8 := hid (Bx.next C.out HF.out.bl)
      have c8 : wr.cell? ⟨c, 8, none⟩ = some (.int .i64 st) := C8.out.cell 8 _ rfl
      have fz := Bx.fz2 C8.out
      have nn : mb ≠ c := MB.out
      have nn2 : c ≠ mb := fun e => nn e.symm
      have C9 := hid (show Ck (wr.setCell ⟨c, 8, none⟩ (.int .i64 (lenF p))) c s lv (lenF p) sk from Bx.set C8.out 8 _)
      have K9 := hid ((Kx.of [c] HF.out.bl).set (p := c) (i := 8) (.int .i64 (lenF p)) (by simp))
      have hm2 : (wr.setCell ⟨c, 8, none⟩ (.int .i64 (lenF p))).cell? ⟨mb, 0, none⟩ = some (.int .i64 (lenF p)) := (cell_other (Or.inl nn2)).trans hm
      go_upto_region 20 with fail
      clear hm c8 fz
      generalize World.setCell wr ⟨c, 8, none⟩ _ = w8 at *
      go_quiet (fail)
      have DQ := hid (dwB w8 nq)
      go_wp2_with fail
      go_returns
      exact ⟨rfl, K9.out.next DQ.out, Bx.next C9.out DQ.out⟩

end Go.Proofs.YtjkbiglnpoeddaaDoor.Vf
