/- The walk over the law's awake. -/
import Derived.Test.YtjkbiglnpoeddaaDoorVga
namespace Go.Proofs.YtjkbiglnpoeddaaDoor.Vf
open Go.RowKit
set_option linter.unusedVariables false
set_option linter.unusedSimpArgs false

theorem rst_all {co : List Ins} (h : (co.all fun x => decide ((x.1 = 9 ∨ x.1 = 17 ∨ x.1 = 19 ∨ x.1 = 20 ∨ x.1 = 23) ∧ 0 ≤ x.2.1 ∧ x.2.1 ≤ 63)) = true) : ∀ x, x ∈ co → Rst x.1 ∧ 0 ≤ x.2.1 ∧ x.2.1 ≤ 63 := fun x hx => by
  have := of_decide_eq_true (List.all_eq_true.1 h x hx)
  exact ⟨this.1, this.2⟩
theorem chk {W : World} {s : S7} {p : Pg} {R : CkR} (hP : Pv W s p) (hT : RT W) (h0 : s.m0 = 0) (h1 : s.m1 = 0) (h2 : s.m2 ≤ 1000000) (h3 : s.m3 ≤ 1000000) (h4 : s.m4 ≤ 1000000) (h6 : s.m6 ≤ 99999) (hck : ckR (lenS s.m2 s.m3 s.m4 s.m5 s.m6) p = R)
    (hR : lisB s p = true → haltsF p = none → opsF p = none → waysF p = none → ∀ x, x ∈ p.co → Rst x.1 ∧ 0 ≤ x.2.1 ∧ x.2.1 ≤ 63) :
    Calls Tryd.prog 6 #[.agg #[.slice s.a0 s.m0 s.c0, .slice s.a1 s.m1 s.c1, .slice s.a2 s.m2 s.c2, .slice s.a3 s.m3 s.c3, .slice s.a4 s.m4 s.c4, .slice s.a5 s.m5 s.c5, .slice s.a6 s.m6 s.c6]] W fun e w' => e = .returned (ckV R) ∧ Below W.heap.size W w' := by
  have e : ckR s p = R := by rw [ckR_m p (s' := lenS s.m2 s.m3 s.m4 s.m5 s.m6) ⟨h0, h1, rfl, rfl, rfl, rfl, rfl⟩]; exact hck
  rw [← e]
  exact Check_any hP hT h0 h1 h2 h3 h4 h6 hR
/-- A program of instructions alone. -/
theorem chk_co {W : World} {a : Option Addr} {m c : Nat} {co : List Ins} {t u k r : Int} {b : Bool} (hV : Vw aN 4 W a m co) (hT : RT W) (hm : m ≤ 99999) (hck : ckR (lenS 0 0 0 0 m) (pgO [] [] [] [] co) = ((t, u), (k, r), b))
    (hR : haltsF (pgO [] [] [] [] co) = none → opsF (pgO [] [] [] [] co) = none → waysF (pgO [] [] [] [] co) = none → ∀ x, x ∈ co → Rst x.1 ∧ 0 ≤ x.2.1 ∧ x.2.1 ≤ 63) :
    Calls Tryd.prog 6 #[.agg #[.slice none 0 0, .slice none 0 0, .slice none 0 0, .slice none 0 0, .slice none 0 0, .slice none 0 0, .slice a m c]] W fun e w' => e = .returned (.tuple #[.agg #[.int .i64 t, .int .i64 u], .agg #[.int .i64 k, .int .i64 r], .bool b]) ∧ Below W.heap.size W w' :=
  chk (s := pgS none none none none a 0 0 0 0 m 0 0 0 0 c) (p := pgO [] [] [] [] co) ⟨Vw.empty _ _ _, Vw.empty _ _ _, Vw.empty _ _ _, Vw.empty _ _ _, Vw.empty _ _ _, Vw.empty _ _ _, hV⟩ hT rfl rfl (by show 0 ≤ _; omega) (by show 0 ≤ _; omega) (by show 0 ≤ _; omega) hm hck (fun _ => hR)
theorem tw2 (w : World) (a b c d : Value) : Bx ((w.alloc (.cells #[a, b] 24)).alloc (.cells #[c, d] 26)) w.heap.size 24 #[a, b] ∧ Bx ((w.alloc (.cells #[a, b] 24)).alloc (.cells #[c, d] 26)) (w.heap.size + 1) 26 #[c, d] ∧ Below w.heap.size w ((w.alloc (.cells #[a, b] 24)).alloc (.cells #[c, d] 26)) := by
  have e : (w.alloc (.cells #[a, b] 24)).heap.size = w.heap.size + 1 := by simp
  refine ⟨Bx.next (Bx.new w #[a, b] 24 (by decide)) (allocB _ _), ?_, nxB (allocB _ _) (allocB _ _)⟩
  rw [← e]
  exact Bx.new _ #[c, d] 26 (by decide)
theorem info_Inv : (Tryd.prog.info? 37).map (fun i => (i.zero, i.size, i.bytes)) = some (some (.agg #[.int .i64 0, .int .i64 0, .int .i64 0, .int .i64 0]), 4, 32) := by kernel_rfl
theorem vw_own {w : World} {B : Nat} {v : Value} {co : List Ins} (h : Qf 37 4 fN4 w B v co) (hs : co.all smN = true) : ∃ a c, v = .slice a co.length c ∧ Vw aN 4 w a co.length co := by
  obtain ⟨a, c, e, V⟩ := h.view (fun _ => rfl) (fun x => x) (A := aN) fun g p x hx hc => ⟨hc 0 _ rfl, hc 1 _ rfl, hc 2 _ rfl, hc 3 _ rfl, okN (by have ok := List.all_eq_true.1 hs x hx; unfold smN at ok; exact of_decide_eq_true ok)⟩
  rw [List.map_id'] at V
  exact ⟨a, c, e, V⟩
set_option maxRecDepth 100000 in
set_option maxHeartbeats 8000000 in
theorem awake_any (w : World) (hT : RT w) : Calls Tryd.prog 5 #[] w fun e w' => e = .returned (.bool true) ∧ Below w.heap.size w w' := by
  have T := hid hT
  have KH := hid halt_any
  clear hT
  go_enter Tryd.func5, Tryd.ntmps5
  go_upto_region 2 with (first | (go_at_call 7; (with_reducible refine Calls.mono (KH.out _) ?_); rintro e w1 ⟨g, rfl, v1, b1⟩; have B1 := hid b1; have KC := hid (chk_co (c := 1) v1 (T.out.next b1) (by decide) ck_halt (fun _ _ _ => rst_all (by decide))); clear b1 v1) | (go_at_call 6; (with_reducible refine Calls.mono KC.out ?_); rintro e w2 ⟨rfl, b2⟩; have B2 := hid (nxB B1.out b2); clear b2 KC))
  have TW := hid (tw2 w2 (.int .i64 1) (.int .i64 0) (.int .i64 0) (.int .i64 0))
  have B3 := hid (nxB B2.out TW.out.2.2)
  generalize World.alloc (World.alloc w2 _) _ = w3 at *
  have TW := hid (And.intro TW.out.1 TW.out.2.1)
  generalize w2.heap.size + 1 = f1 at *
  generalize w2.heap.size = b1 at *
  go_upto_region 3 with (go_at_call 7; (with_reducible refine Calls.mono (KH.out _) ?_); rintro e w4 ⟨g4, rfl, v4, b4⟩; have B4 := hid b4; have V4 := hid v4; clear v4 b4)
  have A5 := allocB w4 (.cells #[.slice none 0 0, .slice none 0 0, .slice none 0 0, .slice none 0 0, .slice none 0 0, .slice none 0 0, .slice (some ⟨g4, 0, none⟩) 1 1] 35)
  have X5 := hid (Bx.new w4 #[.slice none 0 0, .slice none 0 0, .slice none 0 0, .slice none 0 0, .slice none 0 0, .slice none 0 0, .slice (some ⟨g4, 0, none⟩) 1 1] 35 (by decide))
  have B5 := hid (nxB B4.out A5)
  have V5 := hid (V4.out.next aN_nx A5)
  have L5 := hid (show w4.heap.size < (w4.alloc (.cells #[.slice none 0 0, .slice none 0 0, .slice none 0 0, .slice none 0 0, .slice none 0 0, .slice none 0 0, .slice (some ⟨g4, 0, none⟩) 1 1] 35)).heap.size from by simp)
  have LR := hid (show w.heap.size ≤ w4.heap.size from Nat.le_trans B3.out.size B4.out.size)
  have NR := hid (show b1 ≠ w4.heap.size ∧ f1 ≠ w4.heap.size from by have := Bx.lt TW.out.1; have := Bx.lt TW.out.2; have := B4.out.size; omega)
  clear A5 V4
  generalize World.alloc w4 _ = w5 at *
  generalize w4.heap.size = r at *
  have x6 : w5.cell? ⟨r, 6, none⟩ = some (.slice (some ⟨g4, 0, none⟩) 1 1) := X5.out.cell 6 _ rfl
  have A6 := allocB w5 (.cells #[.int .i64 9, .int .i64 0, .int .i64 0, .int .i64 0] 37)
  have y6 := celB A6 x6
  have V6 := hid (V5.out.next aN_nx A6)
  have X6 := hid (Bx.next X5.out A6)
  have Q6 := hid (show Qf 37 4 fN4 (w5.alloc (.cells #[.int .i64 9, .int .i64 0, .int .i64 0, .int .i64 0] 37)) w5.heap.size (.slice (some ⟨w5.heap.size, 0, none⟩) 1 1) [(9, 0, 0, 0)] from World.ownsRow_lit w5 #[.int .i64 9, .int .i64 0, .int .i64 0, .int .i64 0] 1 (Nat.le_refl _) (by decide) rfl)
  have C6 := hid (show ∀ j u, (fN4 (23, 0, 0, 0))[j]? = some u → (w5.alloc (.cells #[.int .i64 9, .int .i64 0, .int .i64 0, .int .i64 0] 37)).cell? ⟨g4, j, none⟩ = some u from by
    obtain ⟨gg, oo, h1, h2⟩ := V6.out.at_
    have e := h1 (by decide)
    injection e with e
    injection e with e1 e2 _
    subst e1 e2
    obtain ⟨q0, q1, q2, q3, _⟩ := h2 0 (23, 0, 0, 0) rfl
    intro j u hu
    match j, hu with
    | 0, hu => cases hu; exact q0
    | 1, hu => cases hu; exact q1
    | 2, hu => cases hu; exact q2
    | 3, hu => cases hu; exact q3
    | j + 4, hu => simp [fN4] at hu)
  have S6 := hid A6.size
  have B6 := hid (nxB B5.out A6)
  have E6 := hid (show Below w5.heap.size w5 (w5.alloc (.cells #[.int .i64 9, .int .i64 0, .int .i64 0, .int .i64 0] 37)) from A6)
  clear A6
  go_upto_region 4 with (at_builtin; refine wpList_addQ 37 33 4 32 (.agg #[.int .i64 0, .int .i64 0, .int .i64 0, .int .i64 0]) fN4 rfl (.tmp 16) (.tmp 18) rfl Tryd.underlying33 info_Inv rfl (by decide) (by decide) (fun _ => rfl) w5.heap.size _ [(9, 0, 0, 0)] (23, 0, 0, 0) rfl Q6.out (fun u hu => by simp [fN4] at hu; rcases hu with rfl | rfl | rfl | rfl <;> rfl) g4 rfl C6.out (by decide) S6.out ?_; intro v7 w7 o7 g7; obtain ⟨a7, c7, ev, vv⟩ := vw_own o7 (by decide); subst ev; have Q7 := hid o7; have V7 := hid vv; have B7 := hid (E6.out.grown g7 S6.out (fun k hk => (Q6.out.ty k hk).1)); clear vv g7; have X7 := hid (Bx.next X5.out B7.out); have z6 : w7.cell? ⟨r, 6, none⟩ = some (.slice (some ⟨g4, 0, none⟩) 1 1) := X7.out.cell 6 _ rfl; have fz := Bx.fz2 X7.out)
  have X8 := hid (show Bx (w7.setCell ⟨r, 6, none⟩ (.slice a7 2 c7)) r 35 #[.slice none 0 0, .slice none 0 0, .slice none 0 0, .slice none 0 0, .slice none 0 0, .slice none 0 0, .slice a7 2 c7] from Bx.set X7.out 6 _)
  have Q8 := hid (Q7.out.but (grownBy_setCell w7 r 6 (.slice a7 2 c7)) L5.out)
  have BW7 := hid (nxB (nxB B3.out B5.out) B7.out)
  have RL := hid (show w.heap.size ≤ r from LR.out)
  have BW8 := hid (((Kx.of [r] BW7.out).set (p := r) (i := 6) (.slice a7 2 c7) (by simp)).bel (Nat.le_refl _) (fun i hi => by simp at hi; subst hi; exact RL.out))
  have TB := hid (Bx.kx (Bx.next (Bx.next TW.out.1 B5.out) B7.out) ((Kx.refl [r] w7).set (p := r) (i := 6) (.slice a7 2 c7) (by simp)) (by simp; exact NR.out.1))
  have TF := hid (Bx.kx (Bx.next (Bx.next TW.out.2 B5.out) B7.out) ((Kx.refl [r] w7).set (p := r) (i := 6) (.slice a7 2 c7) (by simp)) (by simp; exact NR.out.2))
  clear z6 fz x6 y6 X7 Q7 V7 X6 V6 X5 V5 C6
  generalize World.setCell w7 ⟨r, 6, none⟩ _ = w8 at *
  obtain ⟨a8, c8, ev8, vv8⟩ := vw_own Q8.out (by decide)
  injection ev8 with e1 _ e2
  subst e1 e2
  have KC8 := hid (show Calls Tryd.prog 6 #[.agg #[.slice none 0 0, .slice none 0 0, .slice none 0 0, .slice none 0 0, .slice none 0 0, .slice none 0 0, .slice a7 2 c7]] w8 (fun e w' => e = .returned (.tuple #[.agg #[.int .i64 0, .int .i64 0], .agg #[.int .i64 0, .int .i64 5], .bool false]) ∧ Below w8.heap.size w8 w') from chk_co (c := c7) vv8 (T.out.next BW8.out) (by decide) ck_not (fun _ _ _ => rst_all (by decide)))
  have x0 : w8.cell? ⟨r, 0, none⟩ = some (.slice none 0 0) := X8.out.cell 0 _ rfl
  have x1 : w8.cell? ⟨r, 1, none⟩ = some (.slice none 0 0) := X8.out.cell 1 _ rfl
  have x2 : w8.cell? ⟨r, 2, none⟩ = some (.slice none 0 0) := X8.out.cell 2 _ rfl
  have x3 : w8.cell? ⟨r, 3, none⟩ = some (.slice none 0 0) := X8.out.cell 3 _ rfl
  have x4 : w8.cell? ⟨r, 4, none⟩ = some (.slice none 0 0) := X8.out.cell 4 _ rfl
  have x5 : w8.cell? ⟨r, 5, none⟩ = some (.slice none 0 0) := X8.out.cell 5 _ rfl
  have x6 : w8.cell? ⟨r, 6, none⟩ = some (.slice a7 2 c7) := X8.out.cell 6 _ rfl
  clear vv8
  go_upto_region 5 with (go_at_call 6; (with_reducible refine Calls.mono KC8.out ?_); rintro e w9 ⟨rfl, b9⟩; have B9 := hid (nxB BW8.out b9); have TB9 := hid (Bx.next TB.out b9); have TF9 := hid (Bx.next TF.out b9); clear b9)
  clear x0 x1 x2 x3 x4 x5 x6
  have TW9 := hid (tw2 w9 (.int .i64 0) (.int .i64 0) (.int .i64 0) (.int .i64 5))
  have BF := hid (nxB B9.out TW9.out.2.2)
  obtain ⟨u0, u1⟩ := Bx.q2 (Bx.next TB9.out TW9.out.2.2)
  obtain ⟨v0, v1⟩ := Bx.q2 (Bx.next TF9.out TW9.out.2.2)
  obtain ⟨p0, p1⟩ := Bx.q2 TW9.out.1
  obtain ⟨q0, q1⟩ := Bx.q2 TW9.out.2.1
  generalize World.alloc (World.alloc w9 _) _ = wf at *
  generalize w9.heap.size + 1 = f9 at *
  generalize w9.heap.size = b9 at *
  go_wp2_with fail
  go_ret
  exact ⟨rfl, BF.out⟩

end Go.Proofs.YtjkbiglnpoeddaaDoor.Vf
