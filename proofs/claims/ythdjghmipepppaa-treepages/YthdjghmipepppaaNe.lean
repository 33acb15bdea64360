/- changed: a list of items with a change. -/
import Derived.Test.YthdjghmipepppaaNd
namespace Go.Proofs.Ythdjghmipepppaa
open Go.RowKit Go.Shelf
set_option linter.unusedVariables false
set_option linter.unusedSimpArgs false
attribute [local go_sem] Oper.semAt_some

theorem ownsI_below {w w' : World} {base : Nat} {v : Value} {n : Nat} {xs : List Value} (h : w.ownsRow base 61 2 v n xs) (b : Below w.heap.size w w') : w'.ownsRow base 61 2 v n xs := ownsRow_kept h (fun g q => b.block g (h.lt g q).2)
theorem own_one (w : World) (x : It) : (w.alloc (.cells #[.string x.1, .string x.2] 61)).ownsRow w.heap.size 61 2 (.slice (some ⟨w.heap.size, 0, none⟩) 1 1) [x].length (cI [x]) := by
  refine ⟨rfl, Or.inr ⟨w.heap.size, 1, #[.string x.1, .string x.2], rfl, Nat.le_refl _, heap_alloc_new w _, Nat.le_refl _, by unfold maxLen; omega, rfl, rfl⟩⟩
theorem own_app {w1 w w' : World} {v : Value} {n : Nat} {xs : List Value} (B : Below w1.heap.size w1 w) (o : w.ownsRow w1.heap.size 61 2 v n xs) (g : w.grownBy w' v.ownBlock) : Below w1.heap.size w1 w' :=
  ⟨g.os.trans B.os, g.tape.trans B.tape, g.output.trans B.output, Nat.le_trans B.size g.size, fun k hk => (g.block k (Nat.lt_of_lt_of_le hk B.size) (fun e => by
    have q := (o.lt k e.symm).1
    omega)).trans (B.block k hk)⟩
/-- One step of the change. -/
def stp (k v : ByteArray) (s : List It × Bool) (x : It) : List It × Bool := (s.1 ++ ((if !s.2 && leS k x.1 then [(k, v)] else []) ++ (if x.1 = k then [] else [x])), s.2 || leS k x.1)
theorem chgT_next (k v : ByteArray) (d : Bool) (R : List It) (i : Nat) (x : It) (h : R[i]? = some x) : chgT k v d (R.take (i + 1)) = stp k v (chgT k v d (R.take i)) x := by
  have l := lt_of_some h
  have e : R.take (i + 1) = R.take i ++ [x] := by
    rw [List.take_add_one, h]
    rfl
  unfold chgT
  rw [e, List.foldl_append]
  rfl
def ChgP (w w' : World) (R : List It) (k v : ByteArray) (d : Bool) (e : Ending) : Prop :=
  ∃ u, e = .returned u ∧ w'.ownsRow w.heap.size 61 2 u (chg k v d R).length (cI (chg k v d R)) ∧ Below w.heap.size w w'
theorem ChgP.mk {w w1 w' : World} {R : List It} {k v : ByteArray} {d : Bool} {u : Value} {M : List It} (b0 : Below w.heap.size w w1) (o : w'.ownsRow w1.heap.size 61 2 u M.length (cI M)) (b : Below w1.heap.size w1 w') (e : M = chg k v d R) : ChgP w w' R k v d (.returned u) := by
  subst e
  refine ⟨u, rfl, ⟨o.1, ?_⟩, nextB b0 b⟩
  rcases o.2 with q | ⟨g, cap, cur, hv, hg, rest⟩
  · exact .inl q
  · exact .inr ⟨g, cap, cur, hv, Nat.le_trans b0.size hg, rest⟩
set_option maxRecDepth 100000 in
set_option maxHeartbeats 16000000 in
theorem changed_any (w : World) (a : Option Addr) (cap b : Nat) (R : List It) (v : Value) (h : IR2 w v R a cap b) (hl : R.length ≤ 100000) (hc : R.length ≤ cap) (hm : cap ≤ maxLen) (xk xv : ByteArray) (xd : Bool) :
    Calls Try.prog 24 #[.slice a R.length cap, .agg #[.string xk, .string xv, .bool xd]] w fun e w' => ChgP w w' R xk xv xd e := by
  have H : Hid _ := h
  unfold maxLen at hm
  clear h
  have b0 : Hid _ := allocB w (.cells #[.string xk, .string xv, .bool xd] 46)
  have A0 : Hid (AcAt (w.alloc (.cells #[.string xk, .string xv, .bool xd] 46)) w.heap.size 0 ⟨xk, xv, xd⟩) := ⟨by rw [cell_alloc_new]; rfl, by rw [cell_alloc_new]; rfl, by rw [cell_alloc_new]; rfl⟩
  go_enter Try.func24, Try.ntmps24
  go_upto_region 4 with fail
  generalize w.alloc (.cells #[.string xk, .string xv, .bool xd] 46) = w1 at *
  have XL : Hid (w.heap.size < w1.heap.size) := World.block_lt_of_cell? _ _ A0.out.c0
  obtain ⟨X, hX⟩ : ∃ X, X = w.heap.size := ⟨_, rfl⟩
  have HX : Hid _ := hX
  rw [← hX] at A0 XL ⊢
  clear hX
  go_loopg [5, 6, 7] R.length (fun g mv dv iv wr => ∃ (i : Nat) (acc : List It) (dn : Bool), i ≤ R.length ∧ g = R.length - i ∧ dv = .bool dn ∧ iv = .int .i64 (i : Nat) ∧ Hid (chgT xk xv xd (R.take i) = (acc, dn)) ∧ Hid (wr.ownsRow w1.heap.size 61 2 mv acc.length (cI acc)) ∧ Hid (Below w1.heap.size w1 wr) ∧ Hid (acc.length ≤ 2 * i))
  case atStart => exact ⟨0, [], xd, by omega, rfl, rfl, rfl, rfl, World.ownsRow_nil _ _ _ _, Below.refl _ _, Nat.le_refl _⟩
  case round =>
    obtain ⟨i, acc, dn, hi, rfl, rfl, rfl, CH, OW, BQ, AL⟩ := hrel
    have AX : Hid (∀ V, Below w1.heap.size w1 V → AcAt V X 0 ⟨xk, xv, xd⟩) := fun V k => A0.out.kept (k.block X XL.out)
    by_cases c : i < R.length
    · have c' : (i : Int) < (R.length : Int) := by omega
      obtain ⟨x, hx⟩ : ∃ x, R[i]? = some x := ⟨_, List.getElem?_eq_getElem c⟩
      have pa := H.out.a (by omega)
      subst pa
      have KX : Hid (∀ V, Below w1.heap.size w1 V → V.cell? ⟨b, i * 2, none⟩ = some (.string x.1) ∧ V.cell? ⟨b, i * 2 + 1, none⟩ = some (.string x.2)) := fun V k => by
        have q0 := H.out.c0 i x hx
        have q1 := H.out.c1 i x hx
        have lb := World.block_lt_of_cell? _ _ q0
        have bl := k.block b (Nat.lt_of_lt_of_le lb b0.out.size)
        have bl2 := bl.trans (b0.out.block b lb)
        exact ⟨(World.cell?_of_block (w := w) (a := ⟨b, i * 2, none⟩) bl2).trans q0, (World.cell?_of_block (w := w) (a := ⟨b, i * 2 + 1, none⟩) bl2).trans q1⟩
      have NX : Hid _ := chgT_next xk xv xd R i x hx
      rw [CH.out] at NX
      obtain ⟨yk, yv⟩ := x
      clear hx
      dsimp only at KX
      cases e1 : Op.bytesLess yk.toList xk.toList with
      | true =>
        have le : Hid (leS xk yk = false) := by rw [ltS_leS]; show (!Op.bytesLess yk.toList xk.toList) = false; rw [e1]; rfl
        have ne : yk.toList ≠ xk.toList := fun e => by have q : ltS yk xk = true := e1; unfold ltS at q; rw [e] at q; have := ltS_irrefl xk; unfold ltS at this; rw [q] at this; cases this
        cases dn with
        | true =>
          have d0 := (KX.out wr BQ.out).1
          have d1 := (KX.out wr BQ.out).2
          have d2 := (AX.out wr BQ.out).c0
          have d3 : wr.cell? ⟨X, 1, none⟩ = some (.string xv) := (AX.out wr BQ.out).c1
          dsimp only at d2
          go_upto_region 6 with fail
          go_quiet (fail)
          have BY : Hid _ := nextB BQ.out (drewB wr nq)
          have OY : Hid _ := ownsI_below OW.out (drewB wr nq)
          generalize wr.drewN nq = wy at *
          clear nq
          clear d0 d1 d2 d3
          go_upto_region 9 with fail
          have f0 := (KX.out wy BY.out).1
          have f1 := (KX.out wy BY.out).2
          have f2 := (AX.out wy BY.out).c0
          have f3 : wy.cell? ⟨X, 1, none⟩ = some (.string xv) := (AX.out wy BY.out).c1
          dsimp only at f2
          have ne' : (yk.toList == xk.toList) = false := by simpa using ne
          have nk : Hid (yk ≠ xk) := fun e => ne (congrArg ByteArray.toList e)
          go_quiet (fail)
          have BZ : Hid _ := nextB BY.out (drewB wy nq)
          have OZ : Hid _ := ownsI_below OY.out (drewB wy nq)
          generalize wy.drewN nq = wz at *
          clear nq
          clear f0 f1 f2 f3
          have f0 := (KX.out wz BZ.out).1
          have f1 := (KX.out wz BZ.out).2
          have f2 := (AX.out wz BZ.out).c0
          have f3 : wz.cell? ⟨X, 1, none⟩ = some (.string xv) := (AX.out wz BZ.out).c1
          dsimp only at f2
          have bn8 : Hid _ := allocB wz (.cells #[.string yk, .string yv] 61)
          have ON8 : Hid _ := own_one wz (yk, yv)
          have OV8 : Hid _ := ownsI_below OZ.out bn8.out
          have BV8 : Hid _ := nextB BZ.out bn8.out
          have al := AL.out
          go_upto_region 5 with (at_builtin; refine wpList_append_items rfl (.tmp 44) (.tmp 49) rfl w1.heap.size _ acc rfl OV8.out _ _ [(yk, yv)] rfl ON8.out (by simp; omega) (by exact BV8.out.size) ?_; rintro v8 w8 o8 gr8)
          have O8 : Hid _ := o8
          have B8 : Hid _ := own_app BV8.out OV8.out gr8
          clear o8 gr8 ON8 OV8 BV8 bn8
          clear f0 f1 f2 f3
          have X9 : Hid (chgT xk xv xd (R.take (i + 1)) = (acc ++ [(yk, yv)], true)) := (by rw [NX.out]; unfold stp; rw [le.out]; simp [nk.out] : chgT xk xv xd (R.take (i + 1)) = (acc ++ [(yk, yv)], true))
          have AL9 : Hid ((acc ++ [(yk, yv)] : List It).length ≤ 2 * (i + 1)) := (by have al := AL.out; first | omega | (simp; omega) : (acc ++ [(yk, yv)] : List It).length ≤ 2 * (i + 1))
          clear KX AX NX
          go_wp2
          go_roundg (R.length - (i + 1))
          case measure => omega
          case rel => exact ⟨i + 1, acc ++ [(yk, yv)], true, by omega, rfl, rfl, by go_num, X9.out, O8.out, B8.out, AL9.out⟩
        | false =>
          have d0 := (KX.out wr BQ.out).1
          have d1 := (KX.out wr BQ.out).2
          have d2 := (AX.out wr BQ.out).c0
          have d3 : wr.cell? ⟨X, 1, none⟩ = some (.string xv) := (AX.out wr BQ.out).c1
          dsimp only at d2
          go_upto_region 6 with fail
          go_quiet (fail)
          have BY : Hid _ := nextB BQ.out (drewB wr nq)
          have OY : Hid _ := ownsI_below OW.out (drewB wr nq)
          generalize wr.drewN nq = wy at *
          clear nq
          clear d0 d1 d2 d3
          go_upto_region 9 with fail
          have f0 := (KX.out wy BY.out).1
          have f1 := (KX.out wy BY.out).2
          have f2 := (AX.out wy BY.out).c0
          have f3 : wy.cell? ⟨X, 1, none⟩ = some (.string xv) := (AX.out wy BY.out).c1
          dsimp only at f2
          have ne' : (yk.toList == xk.toList) = false := by simpa using ne
          have nk : Hid (yk ≠ xk) := fun e => ne (congrArg ByteArray.toList e)
          go_quiet (fail)
          have BZ : Hid _ := nextB BY.out (drewB wy nq)
          have OZ : Hid _ := ownsI_below OY.out (drewB wy nq)
          generalize wy.drewN nq = wz at *
          clear nq
          clear f0 f1 f2 f3
          have f0 := (KX.out wz BZ.out).1
          have f1 := (KX.out wz BZ.out).2
          have f2 := (AX.out wz BZ.out).c0
          have f3 : wz.cell? ⟨X, 1, none⟩ = some (.string xv) := (AX.out wz BZ.out).c1
          dsimp only at f2
          have bn8 : Hid _ := allocB wz (.cells #[.string yk, .string yv] 61)
          have ON8 : Hid _ := own_one wz (yk, yv)
          have OV8 : Hid _ := ownsI_below OZ.out bn8.out
          have BV8 : Hid _ := nextB BZ.out bn8.out
          have al := AL.out
          go_upto_region 5 with (at_builtin; refine wpList_append_items rfl (.tmp 44) (.tmp 49) rfl w1.heap.size _ acc rfl OV8.out _ _ [(yk, yv)] rfl ON8.out (by simp; omega) (by exact BV8.out.size) ?_; rintro v8 w8 o8 gr8)
          have O8 : Hid _ := o8
          have B8 : Hid _ := own_app BV8.out OV8.out gr8
          clear o8 gr8 ON8 OV8 BV8 bn8
          clear f0 f1 f2 f3
          have X9 : Hid (chgT xk xv xd (R.take (i + 1)) = (acc ++ [(yk, yv)], false)) := (by rw [NX.out]; unfold stp; rw [le.out]; simp [nk.out] : chgT xk xv xd (R.take (i + 1)) = (acc ++ [(yk, yv)], false))
          have AL9 : Hid ((acc ++ [(yk, yv)] : List It).length ≤ 2 * (i + 1)) := (by have al := AL.out; first | omega | (simp; omega) : (acc ++ [(yk, yv)] : List It).length ≤ 2 * (i + 1))
          clear KX AX NX
          go_wp2
          go_roundg (R.length - (i + 1))
          case measure => omega
          case rel => exact ⟨i + 1, acc ++ [(yk, yv)], false, by omega, rfl, rfl, by go_num, X9.out, O8.out, B8.out, AL9.out⟩
      | false =>
        have le : Hid (leS xk yk = true) := by rw [ltS_leS]; show (!Op.bytesLess yk.toList xk.toList) = true; rw [e1]; rfl
        cases dn with
        | true =>
          have d0 := (KX.out wr BQ.out).1
          have d1 := (KX.out wr BQ.out).2
          have d2 := (AX.out wr BQ.out).c0
          have d3 : wr.cell? ⟨X, 1, none⟩ = some (.string xv) := (AX.out wr BQ.out).c1
          dsimp only at d2
          go_upto_region 6 with fail
          go_quiet (fail)
          have BY : Hid _ := nextB BQ.out (drewB wr nq)
          have OY : Hid _ := ownsI_below OW.out (drewB wr nq)
          generalize wr.drewN nq = wy at *
          clear nq
          clear d0 d1 d2 d3
          go_upto_region 9 with fail
          have f0 := (KX.out wy BY.out).1
          have f1 := (KX.out wy BY.out).2
          have f2 := (AX.out wy BY.out).c0
          have f3 : wy.cell? ⟨X, 1, none⟩ = some (.string xv) := (AX.out wy BY.out).c1
          dsimp only at f2
          by_cases ne : yk.toList = xk.toList
          · have ne' : (yk.toList == xk.toList) = true := by rw [ne]; simp
            have nk : Hid (yk = xk) := toL_inj ne
            go_quiet (fail)
            have BZ : Hid _ := nextB BY.out (drewB wy nq)
            have OZ : Hid _ := ownsI_below OY.out (drewB wy nq)
            generalize wy.drewN nq = wz at *
            clear nq
            clear f0 f1 f2 f3
            have X9 : Hid (chgT xk xv xd (R.take (i + 1)) = (acc, true)) := (by rw [NX.out]; unfold stp; rw [le.out]; simp [nk.out] : chgT xk xv xd (R.take (i + 1)) = (acc, true))
            have AL9 : Hid ((acc : List It).length ≤ 2 * (i + 1)) := (by have al := AL.out; first | omega | (simp; omega) : (acc : List It).length ≤ 2 * (i + 1))
            clear KX AX NX
            go_wp2
            go_roundg (R.length - (i + 1))
            case measure => omega
            case rel => exact ⟨i + 1, acc, true, by omega, rfl, rfl, by go_num, X9.out, OZ.out, BZ.out, AL9.out⟩
          · have ne' : (yk.toList == xk.toList) = false := by simpa using ne
            have nk : Hid (yk ≠ xk) := fun e => ne (congrArg ByteArray.toList e)
            go_quiet (fail)
            have BZ : Hid _ := nextB BY.out (drewB wy nq)
            have OZ : Hid _ := ownsI_below OY.out (drewB wy nq)
            generalize wy.drewN nq = wz at *
            clear nq
            clear f0 f1 f2 f3
            have f0 := (KX.out wz BZ.out).1
            have f1 := (KX.out wz BZ.out).2
            have f2 := (AX.out wz BZ.out).c0
            have f3 : wz.cell? ⟨X, 1, none⟩ = some (.string xv) := (AX.out wz BZ.out).c1
            dsimp only at f2
            have bn8 : Hid _ := allocB wz (.cells #[.string yk, .string yv] 61)
            have ON8 : Hid _ := own_one wz (yk, yv)
            have OV8 : Hid _ := ownsI_below OZ.out bn8.out
            have BV8 : Hid _ := nextB BZ.out bn8.out
            have al := AL.out
            go_upto_region 5 with (at_builtin; refine wpList_append_items rfl (.tmp 44) (.tmp 49) rfl w1.heap.size _ acc rfl OV8.out _ _ [(yk, yv)] rfl ON8.out (by simp; omega) (by exact BV8.out.size) ?_; rintro v8 w8 o8 gr8)
            have O8 : Hid _ := o8
            have B8 : Hid _ := own_app BV8.out OV8.out gr8
            clear o8 gr8 ON8 OV8 BV8 bn8
            clear f0 f1 f2 f3
            have X9 : Hid (chgT xk xv xd (R.take (i + 1)) = (acc ++ [(yk, yv)], true)) := (by rw [NX.out]; unfold stp; rw [le.out]; simp [nk.out] : chgT xk xv xd (R.take (i + 1)) = (acc ++ [(yk, yv)], true))
            have AL9 : Hid ((acc ++ [(yk, yv)] : List It).length ≤ 2 * (i + 1)) := (by have al := AL.out; first | omega | (simp; omega) : (acc ++ [(yk, yv)] : List It).length ≤ 2 * (i + 1))
            clear KX AX NX
            go_wp2
            go_roundg (R.length - (i + 1))
            case measure => omega
            case rel => exact ⟨i + 1, acc ++ [(yk, yv)], true, by omega, rfl, rfl, by go_num, X9.out, O8.out, B8.out, AL9.out⟩
        | false =>
          have d0 := (KX.out wr BQ.out).1
          have d1 := (KX.out wr BQ.out).2
          have d2 := (AX.out wr BQ.out).c0
          have d3 : wr.cell? ⟨X, 1, none⟩ = some (.string xv) := (AX.out wr BQ.out).c1
          dsimp only at d2
          go_upto_region 6 with fail
          go_quiet (fail)
          have BY : Hid _ := nextB BQ.out (drewB wr nq)
          have OY : Hid _ := ownsI_below OW.out (drewB wr nq)
          generalize wr.drewN nq = wy at *
          clear nq
          clear d0 d1 d2 d3
          have d0 := (KX.out wy BY.out).1
          have d1 := (KX.out wy BY.out).2
          have d2 := (AX.out wy BY.out).c0
          have d3 : wy.cell? ⟨X, 1, none⟩ = some (.string xv) := (AX.out wy BY.out).c1
          dsimp only at d2
          have bn7 : Hid _ := allocB wy (.cells #[.string xk, .string xv] 61)
          have ON7 : Hid _ := own_one wy (xk, xv)
          have OV7 : Hid _ := ownsI_below OY.out bn7.out
          have BV7 : Hid _ := nextB BY.out bn7.out
          have al := AL.out
          go_upto_region 8 with (at_builtin; refine wpList_append_items rfl (.tmp 28) (.tmp 34) rfl w1.heap.size _ acc rfl OV7.out _ _ [(xk, xv)] rfl ON7.out (by simp; omega) (by exact BV7.out.size) ?_; rintro v7 w7 o7 gr7)
          have O7 : Hid _ := o7
          have B7 : Hid _ := own_app BV7.out OV7.out gr7
          clear o7 gr7 ON7 OV7 BV7 bn7
          clear d0 d1 d2 d3
          go_upto_region 9 with fail
          have f0 := (KX.out w7 B7.out).1
          have f1 := (KX.out w7 B7.out).2
          have f2 := (AX.out w7 B7.out).c0
          have f3 : w7.cell? ⟨X, 1, none⟩ = some (.string xv) := (AX.out w7 B7.out).c1
          dsimp only at f2
          by_cases ne : yk.toList = xk.toList
          · have ne' : (yk.toList == xk.toList) = true := by rw [ne]; simp
            have nk : Hid (yk = xk) := toL_inj ne
            go_quiet (fail)
            have BZ : Hid _ := nextB B7.out (drewB w7 nq)
            have OZ : Hid _ := ownsI_below O7.out (drewB w7 nq)
            generalize w7.drewN nq = wz at *
            clear nq
            clear f0 f1 f2 f3
            have X9 : Hid (chgT xk xv xd (R.take (i + 1)) = ((acc ++ [(xk, xv)]), true)) := (by rw [NX.out]; unfold stp; rw [le.out]; simp [nk.out] : chgT xk xv xd (R.take (i + 1)) = ((acc ++ [(xk, xv)]), true))
            have AL9 : Hid (((acc ++ [(xk, xv)]) : List It).length ≤ 2 * (i + 1)) := (by have al := AL.out; first | omega | (simp; omega) : ((acc ++ [(xk, xv)]) : List It).length ≤ 2 * (i + 1))
            clear KX AX NX
            go_wp2
            go_roundg (R.length - (i + 1))
            case measure => omega
            case rel => exact ⟨i + 1, (acc ++ [(xk, xv)]), true, by omega, rfl, rfl, by go_num, X9.out, OZ.out, BZ.out, AL9.out⟩
          · have ne' : (yk.toList == xk.toList) = false := by simpa using ne
            have nk : Hid (yk ≠ xk) := fun e => ne (congrArg ByteArray.toList e)
            go_quiet (fail)
            have BZ : Hid _ := nextB B7.out (drewB w7 nq)
            have OZ : Hid _ := ownsI_below O7.out (drewB w7 nq)
            generalize w7.drewN nq = wz at *
            clear nq
            clear f0 f1 f2 f3
            have f0 := (KX.out wz BZ.out).1
            have f1 := (KX.out wz BZ.out).2
            have f2 := (AX.out wz BZ.out).c0
            have f3 : wz.cell? ⟨X, 1, none⟩ = some (.string xv) := (AX.out wz BZ.out).c1
            dsimp only at f2
            have bn8 : Hid _ := allocB wz (.cells #[.string yk, .string yv] 61)
            have ON8 : Hid _ := own_one wz (yk, yv)
            have OV8 : Hid _ := ownsI_below OZ.out bn8.out
            have BV8 : Hid _ := nextB BZ.out bn8.out
            have al := AL.out
            go_upto_region 5 with (at_builtin; refine wpList_append_items rfl (.tmp 44) (.tmp 49) rfl w1.heap.size _ (acc ++ [(xk, xv)]) rfl OV8.out _ _ [(yk, yv)] rfl ON8.out (by simp; omega) (by exact BV8.out.size) ?_; rintro v8 w8 o8 gr8)
            have O8 : Hid _ := o8
            have B8 : Hid _ := own_app BV8.out OV8.out gr8
            clear o8 gr8 ON8 OV8 BV8 bn8
            clear f0 f1 f2 f3
            have X9 : Hid (chgT xk xv xd (R.take (i + 1)) = ((acc ++ [(xk, xv)]) ++ [(yk, yv)], true)) := (by rw [NX.out]; unfold stp; rw [le.out]; simp [nk.out] : chgT xk xv xd (R.take (i + 1)) = ((acc ++ [(xk, xv)]) ++ [(yk, yv)], true))
            have AL9 : Hid (((acc ++ [(xk, xv)]) ++ [(yk, yv)] : List It).length ≤ 2 * (i + 1)) := (by have al := AL.out; first | omega | (simp; omega) : ((acc ++ [(xk, xv)]) ++ [(yk, yv)] : List It).length ≤ 2 * (i + 1))
            clear KX AX NX
            go_wp2
            go_roundg (R.length - (i + 1))
            case measure => omega
            case rel => exact ⟨i + 1, (acc ++ [(xk, xv)]) ++ [(yk, yv)], true, by omega, rfl, rfl, by go_num, X9.out, O8.out, B8.out, AL9.out⟩
    · obtain rfl : i = R.length := by omega
      have CO : Hid _ := chgT_ok xk xv R xd
      have e : R.take R.length = R := List.take_length
      have CH2 : Hid _ := CH.out
      rw [e] at CH2
      rw [CH2.out] at CO
      have al := AL.out
      cases dn with
      | true =>
        have FIN : Hid _ := ChgP.mk (R := R) b0.out OW.out BQ.out (by have q := CO.out; simpa using q)
        go_wp2
        go_ret
        exact FIN.out
      | false =>
        have q := AX.out wr BQ.out
        have d0 := q.c0
        have d1 : wr.cell? ⟨X, 1, none⟩ = some (.string xv) := q.c1
        dsimp only at d0
        have bn : Hid _ := allocB wr (.cells #[.string xk, .string xv] 61)
        have ON : Hid _ := own_one wr (xk, xv)
        have OV : Hid _ := ownsI_below OW.out bn.out
        have BV : Hid _ := nextB BQ.out bn.out
        have sz := BV.out.size
        go_upto_region 13 with (at_builtin; refine wpList_append_items rfl (.tmp 53) (.tmp 59) rfl w1.heap.size _ acc rfl OV.out _ _ [(xk, xv)] rfl ON.out (by simp; omega) (by exact BV.out.size) ?_; rintro v5 w5 o5 gr5)
        have FIN : Hid _ := ChgP.mk (R := R) (M := acc ++ [(xk, xv)]) b0.out o5 (own_app BV.out OV.out gr5) (by have q := CO.out; simpa using q)
        clear o5 gr5
        go_wp2
        go_ret
        exact FIN.out

end Go.Proofs.Ythdjghmipepppaa

