/- The walk over verify's isThere. -/
import Derived.Test.YtjkbiglnpoeddaaDoorVfb
import Derived.BigQuiet
namespace Go.Proofs.YtjkbiglnpoeddaaDoor.Vf
open Go.RowKit
set_option linter.unusedVariables false
set_option linter.unusedSimpArgs false

theorem op_cases (op : Int) : op = 0 ∨ op = 1 ∨ op = 2 ∨ op = 3 ∨ op = 4 ∨ op = 5 ∨ op = 6 ∨ op = 7 ∨ op = 8 ∨ op = 9 ∨ op = 10 ∨ op = 11 ∨ op = 12 ∨ op = 13 ∨ op = 14 ∨ op = 15 ∨ op = 16 ∨ op = 17 ∨ op = 18 ∨ op = 19 ∨ op = 20 ∨ op = 21 ∨ op = 22 ∨ op = 23 ∨ ¬ (0 ≤ op ∧ op < 24) := by omega
theorem opN_no {op : Int} (h : ¬ (0 ≤ op ∧ op < 24)) : opN op = ⟨#[]⟩ := by unfold opN; rw [if_neg h]
theorem qsame {P : Program} {f : FuncId} {args : Array Value} {w : World} {n : Nat} {v : Value} (h : Calls P f args (w.drewN n) fun e w' => e = .returned v ∧ w.drewN n = w') : Calls P f args (w.drewN n) fun e w'' => e = .returned v ∧ ∃ m, w'' = w.drewN m :=
  h.mono fun _ _ ⟨he, hm⟩ => ⟨he, n, hm.symm⟩
theorem dwB (w : World) (n : Nat) : Below w.heap.size w (w.drewN n) := ⟨rfl, rfl, rfl, Nat.le_refl _, fun _ _ => rfl⟩
set_option maxRecDepth 100000 in
set_option maxHeartbeats 8000000 in
theorem isThere_0 {w : World} {c : Nat} {s : S7} {p : Pg} {lv : Value} {st sk : Int} (hC : Ck w c s lv st sk) (hP : Pv w s p) (hT : RT w) (hm : s.m4 ≤ 1000000) (a b d : Int) :
    Calls Tryd.prog 22 #[.pointer (some ⟨c, 0, none⟩), .agg #[.int .i64 0, .int .i64 a, .int .i64 b, .int .i64 d]] w fun e w' => e = .returned (.bool (thB p (0, a, b, d))) ∧ Below w.heap.size w w' := by
  have X1 := hid (Bx.new w #[.int .i64 0, .int .i64 a, .int .i64 b, .int .i64 d] 37 (by decide))
  have B1 := hid (allocB w (.cells #[.int .i64 0, .int .i64 a, .int .i64 b, .int .i64 d] 37))
  have KN := hid (code_Name_any 0 _ (hT.next B1.out))
  have EN := hid (show opN 0 = ⟨#[99, 111, 110, 115, 116]⟩ from rfl)
  rw [EN.out] at KN
  have C1 := hid (Bx.next hC B1.out)
  have P1 := hid (hP.next B1.out)
  obtain ⟨q, hq⟩ : ∃ q, q = w.heap.size := ⟨_, rfl⟩
  have WR := hid hq
  rw [← hq] at X1
  clear hC hP hT EN hq
  go_enter Tryd.func22, Tryd.ntmps22
  go_upto_region 1 with fail
  rw [← WR.out]
  generalize World.alloc w _ = w1 at *
  have x0 := X1.out.cell 0 _ rfl
  go_upto_region 2 with (go_at_call 21; (with_reducible refine Calls.mono KN.out ?_); rintro e w2 ⟨rfl, b2⟩; have B2 := hid b2; have C2 := hid (Bx.next C1.out b2); have P2 := hid (P1.out.next b2); have X2 := hid (Bx.next X1.out b2); clear b2)
  clear x0 KN C1 P1 X1
  have x1 := X2.out.cell 1 _ rfl
  have cc : w2.cell? ⟨c, 0, none⟩ = some (.slice s.a0 s.m0 s.c0) := C2.out.cell 0 _ rfl
  have KP := hid (isPlace_any a s.m0)
  have EL := hid (show plB a s.m0 = plB a (p.cs.length : Nat) from by rw [P2.out.k0.len])
  go_upto_region 5 with fail
  go_quiet ((go_at_call 45; exact qsame (KP.out _)))
  have BQ := hid (dwB w2 nq)
  generalize w2.drewN nq = w3 at *
  go_wp2_with fail
  go_ret
  exact ⟨by show _ = Ending.returned (.bool (plB a _)); rw [← EL.out]; rfl, nxB B1.out (nxB B2.out BQ.out)⟩
set_option maxRecDepth 100000 in
set_option maxHeartbeats 8000000 in
theorem isThere_1 {w : World} {c : Nat} {s : S7} {p : Pg} {lv : Value} {st sk : Int} (hC : Ck w c s lv st sk) (hP : Pv w s p) (hT : RT w) (hm : s.m4 ≤ 1000000) (a b d : Int) :
    Calls Tryd.prog 22 #[.pointer (some ⟨c, 0, none⟩), .agg #[.int .i64 1, .int .i64 a, .int .i64 b, .int .i64 d]] w fun e w' => e = .returned (.bool (thB p (1, a, b, d))) ∧ Below w.heap.size w w' := by
  rw [show thB p (1, a, b, d) = (plB a s.m2 && !decide (atI p.ins a = 6)) from by show (plB a _ && !_) = _; rw [hP.k2.len]]
  cases z : plB a s.m2 with
  | false =>
    have KP := hid (isPlace_any a s.m2)
    have X1 := hid (Bx.new w #[.int .i64 1, .int .i64 a, .int .i64 b, .int .i64 d] 37 (by decide))
    have B1 := hid (allocB w (.cells #[.int .i64 1, .int .i64 a, .int .i64 b, .int .i64 d] 37))
    have KN := hid (code_Name_any 1 _ (hT.next B1.out))
    have EN := hid (show opN 1 = ⟨#[105, 110]⟩ from rfl)
    rw [EN.out] at KN
    have C1 := hid (Bx.next hC B1.out)
    have P1 := hid (hP.next B1.out)
    obtain ⟨q, hq⟩ : ∃ q, q = w.heap.size := ⟨_, rfl⟩
    have WR := hid hq
    rw [← hq] at X1
    clear hC hP hT EN hq
    go_enter Tryd.func22, Tryd.ntmps22
    go_upto_region 1 with fail
    rw [← WR.out]
    generalize World.alloc w _ = w1 at *
    have x0 := X1.out.cell 0 _ rfl
    go_upto_region 2 with (go_at_call 21; (with_reducible refine Calls.mono KN.out ?_); rintro e w2 ⟨rfl, b2⟩; have B2 := hid b2; have C2 := hid (Bx.next C1.out b2); have P2 := hid (P1.out.next b2); have X2 := hid (Bx.next X1.out b2); clear b2)
    clear x0 KN C1 P1 X1
    have x1 := X2.out.cell 1 _ rfl
    have c2 : w2.cell? ⟨c, 2, none⟩ = some (.slice s.a2 s.m2 s.c2) := C2.out.cell 2 _ rfl
    rw [z] at KP
    go_upto_region 7 with fail
    go_quiet ((go_at_call 45; exact qsame (KP.out _)))
    have BQ := hid (dwB w2 nq)
    generalize w2.drewN nq = w3 at *
    go_wp2_with fail
    go_ret
    exact ⟨rfl, nxB B1.out (nxB B2.out BQ.out)⟩
  | true =>
    obtain ⟨i, rfl, hi⟩ := plB_yes z
    obtain ⟨g, o, ea, hc0⟩ := kind_at hP.k2 (show i < s.m2 by omega)
    generalize atI p.ins i = k at *
    by_cases q6 : k = 6
    · subst q6
      rw [show decide ((6 : Int) = 6) = true from by decide]
      have KP := hid (isPlace_any (i : Int) s.m2)
      have X1 := hid (Bx.new w #[.int .i64 1, .int .i64 (i : Int), .int .i64 b, .int .i64 d] 37 (by decide))
      have B1 := hid (allocB w (.cells #[.int .i64 1, .int .i64 (i : Int), .int .i64 b, .int .i64 d] 37))
      have KN := hid (code_Name_any 1 _ (hT.next B1.out))
      have EN := hid (show opN 1 = ⟨#[105, 110]⟩ from rfl)
      rw [EN.out] at KN
      have C1 := hid (Bx.next hC B1.out)
      have P1 := hid (hP.next B1.out)
      obtain ⟨q, hq⟩ : ∃ q, q = w.heap.size := ⟨_, rfl⟩
      have WR := hid hq
      rw [← hq] at X1
      clear hC hP hT EN hq
      go_enter Tryd.func22, Tryd.ntmps22
      go_upto_region 1 with fail
      rw [← WR.out]
      generalize World.alloc w _ = w1 at *
      have x0 := X1.out.cell 0 _ rfl
      go_upto_region 2 with (go_at_call 21; (with_reducible refine Calls.mono KN.out ?_); rintro e w2 ⟨rfl, b2⟩; have B2 := hid b2; have C2 := hid (Bx.next C1.out b2); have P2 := hid (P1.out.next b2); have X2 := hid (Bx.next X1.out b2); clear b2)
      clear x0 KN C1 P1 X1
      have x1 := X2.out.cell 1 _ rfl
      have c2 : w2.cell? ⟨c, 2, none⟩ = some (.slice s.a2 s.m2 s.c2) := C2.out.cell 2 _ rfl
      rw [z] at KP
      rw [ea] at c2
      have hc := celB (nxB B1.out B2.out) hc0
      go_upto_region 7 with fail
      go_quiet ((go_at_call 45; exact qsame (KP.out _)))
      have BQ := hid (dwB w2 nq)
      generalize w2.drewN nq = w3 at *
      go_wp2_with fail
      go_ret
      exact ⟨rfl, nxB B1.out (nxB B2.out BQ.out)⟩
    · rw [decide_eq_false q6]
      have qb : (k == 6) = false := by simpa using q6
      have qc : (k != 6) = true := by simp [qb, bne]
      have KP := hid (isPlace_any (i : Int) s.m2)
      have X1 := hid (Bx.new w #[.int .i64 1, .int .i64 (i : Int), .int .i64 b, .int .i64 d] 37 (by decide))
      have B1 := hid (allocB w (.cells #[.int .i64 1, .int .i64 (i : Int), .int .i64 b, .int .i64 d] 37))
      have KN := hid (code_Name_any 1 _ (hT.next B1.out))
      have EN := hid (show opN 1 = ⟨#[105, 110]⟩ from rfl)
      rw [EN.out] at KN
      have C1 := hid (Bx.next hC B1.out)
      have P1 := hid (hP.next B1.out)
      obtain ⟨q, hq⟩ : ∃ q, q = w.heap.size := ⟨_, rfl⟩
      have WR := hid hq
      rw [← hq] at X1
      clear hC hP hT EN hq
      go_enter Tryd.func22, Tryd.ntmps22
      go_upto_region 1 with fail
      rw [← WR.out]
      generalize World.alloc w _ = w1 at *
      have x0 := X1.out.cell 0 _ rfl
      go_upto_region 2 with (go_at_call 21; (with_reducible refine Calls.mono KN.out ?_); rintro e w2 ⟨rfl, b2⟩; have B2 := hid b2; have C2 := hid (Bx.next C1.out b2); have P2 := hid (P1.out.next b2); have X2 := hid (Bx.next X1.out b2); clear b2)
      clear x0 KN C1 P1 X1
      have x1 := X2.out.cell 1 _ rfl
      have c2 : w2.cell? ⟨c, 2, none⟩ = some (.slice s.a2 s.m2 s.c2) := C2.out.cell 2 _ rfl
      rw [z] at KP
      rw [ea] at c2
      have hc := celB (nxB B1.out B2.out) hc0
      go_upto_region 7 with fail
      go_quiet ((go_at_call 45; exact qsame (KP.out _)))
      have BQ := hid (dwB w2 nq)
      generalize w2.drewN nq = w3 at *
      go_wp2_with fail
      go_ret
      exact ⟨rfl, nxB B1.out (nxB B2.out BQ.out)⟩
set_option maxRecDepth 100000 in
set_option maxHeartbeats 8000000 in
theorem isThere_2 {w : World} {c : Nat} {s : S7} {p : Pg} {lv : Value} {st sk : Int} (hC : Ck w c s lv st sk) (hP : Pv w s p) (hT : RT w) (hm : s.m4 ≤ 1000000) (a b d : Int) :
    Calls Tryd.prog 22 #[.pointer (some ⟨c, 0, none⟩), .agg #[.int .i64 2, .int .i64 a, .int .i64 b, .int .i64 d]] w fun e w' => e = .returned (.bool (thB p (2, a, b, d))) ∧ Below w.heap.size w w' := by
  have X1 := hid (Bx.new w #[.int .i64 2, .int .i64 a, .int .i64 b, .int .i64 d] 37 (by decide))
  have B1 := hid (allocB w (.cells #[.int .i64 2, .int .i64 a, .int .i64 b, .int .i64 d] 37))
  have KN := hid (code_Name_any 2 _ (hT.next B1.out))
  have EN := hid (show opN 2 = ⟨#[108, 111, 97, 100]⟩ from rfl)
  rw [EN.out] at KN
  have C1 := hid (Bx.next hC B1.out)
  have P1 := hid (hP.next B1.out)
  obtain ⟨q, hq⟩ : ∃ q, q = w.heap.size := ⟨_, rfl⟩
  have WR := hid hq
  rw [← hq] at X1
  clear hC hP hT EN hq
  go_enter Tryd.func22, Tryd.ntmps22
  go_upto_region 1 with fail
  rw [← WR.out]
  generalize World.alloc w _ = w1 at *
  have x0 := X1.out.cell 0 _ rfl
  go_upto_region 2 with (go_at_call 21; (with_reducible refine Calls.mono KN.out ?_); rintro e w2 ⟨rfl, b2⟩; have B2 := hid b2; have C2 := hid (Bx.next C1.out b2); have P2 := hid (P1.out.next b2); have X2 := hid (Bx.next X1.out b2); clear b2)
  clear x0 KN C1 P1 X1
  have x1 := X2.out.cell 1 _ rfl
  have cc : w2.cell? ⟨c, 4, none⟩ = some (.slice s.a4 s.m4 s.c4) := C2.out.cell 4 _ rfl
  have KP := hid (isPlace_any a s.m4)
  have EL := hid (show plB a s.m4 = plB a (p.sl.length : Nat) from by rw [P2.out.k4.len])
  go_upto_region 10 with fail
  go_quiet ((go_at_call 45; exact qsame (KP.out _)))
  have BQ := hid (dwB w2 nq)
  generalize w2.drewN nq = w3 at *
  go_wp2_with fail
  go_ret
  exact ⟨by show _ = Ending.returned (.bool (plB a _)); rw [← EL.out]; rfl, nxB B1.out (nxB B2.out BQ.out)⟩
set_option maxRecDepth 100000 in
set_option maxHeartbeats 8000000 in
theorem isThere_3 {w : World} {c : Nat} {s : S7} {p : Pg} {lv : Value} {st sk : Int} (hC : Ck w c s lv st sk) (hP : Pv w s p) (hT : RT w) (hm : s.m4 ≤ 1000000) (a b d : Int) :
    Calls Tryd.prog 22 #[.pointer (some ⟨c, 0, none⟩), .agg #[.int .i64 3, .int .i64 a, .int .i64 b, .int .i64 d]] w fun e w' => e = .returned (.bool (thB p (3, a, b, d))) ∧ Below w.heap.size w w' := by
  have X1 := hid (Bx.new w #[.int .i64 3, .int .i64 a, .int .i64 b, .int .i64 d] 37 (by decide))
  have B1 := hid (allocB w (.cells #[.int .i64 3, .int .i64 a, .int .i64 b, .int .i64 d] 37))
  have KN := hid (code_Name_any 3 _ (hT.next B1.out))
  have EN := hid (show opN 3 = ⟨#[115, 116, 111, 114, 101]⟩ from rfl)
  rw [EN.out] at KN
  have C1 := hid (Bx.next hC B1.out)
  have P1 := hid (hP.next B1.out)
  obtain ⟨q, hq⟩ : ∃ q, q = w.heap.size := ⟨_, rfl⟩
  have WR := hid hq
  rw [← hq] at X1
  clear hC hP hT EN hq
  go_enter Tryd.func22, Tryd.ntmps22
  go_upto_region 1 with fail
  rw [← WR.out]
  generalize World.alloc w _ = w1 at *
  have x0 := X1.out.cell 0 _ rfl
  go_upto_region 2 with (go_at_call 21; (with_reducible refine Calls.mono KN.out ?_); rintro e w2 ⟨rfl, b2⟩; have B2 := hid b2; have C2 := hid (Bx.next C1.out b2); have P2 := hid (P1.out.next b2); have X2 := hid (Bx.next X1.out b2); clear b2)
  clear x0 KN C1 P1 X1
  have x1 := X2.out.cell 1 _ rfl
  have cc : w2.cell? ⟨c, 4, none⟩ = some (.slice s.a4 s.m4 s.c4) := C2.out.cell 4 _ rfl
  have KP := hid (isPlace_any a s.m4)
  have EL := hid (show plB a s.m4 = plB a (p.sl.length : Nat) from by rw [P2.out.k4.len])
  go_upto_region 10 with fail
  go_quiet ((go_at_call 45; exact qsame (KP.out _)))
  have BQ := hid (dwB w2 nq)
  generalize w2.drewN nq = w3 at *
  go_wp2_with fail
  go_ret
  exact ⟨by show _ = Ending.returned (.bool (plB a _)); rw [← EL.out]; rfl, nxB B1.out (nxB B2.out BQ.out)⟩
set_option maxRecDepth 100000 in
set_option maxHeartbeats 8000000 in
theorem isThere_4 {w : World} {c : Nat} {s : S7} {p : Pg} {lv : Value} {st sk : Int} (hC : Ck w c s lv st sk) (hP : Pv w s p) (hT : RT w) (hm : s.m4 ≤ 1000000) (a b d : Int) :
    Calls Tryd.prog 22 #[.pointer (some ⟨c, 0, none⟩), .agg #[.int .i64 4, .int .i64 a, .int .i64 b, .int .i64 d]] w fun e w' => e = .returned (.bool (thB p (4, a, b, d))) ∧ Below w.heap.size w w' := by
  have X1 := hid (Bx.new w #[.int .i64 4, .int .i64 a, .int .i64 b, .int .i64 d] 37 (by decide))
  have B1 := hid (allocB w (.cells #[.int .i64 4, .int .i64 a, .int .i64 b, .int .i64 d] 37))
  have KN := hid (code_Name_any 4 _ (hT.next B1.out))
  have EN := hid (show opN 4 = ⟨#[97, 100, 100]⟩ from rfl)
  rw [EN.out] at KN
  have C1 := hid (Bx.next hC B1.out)
  have P1 := hid (hP.next B1.out)
  obtain ⟨q, hq⟩ : ∃ q, q = w.heap.size := ⟨_, rfl⟩
  have WR := hid hq
  rw [← hq] at X1
  clear hC hP hT EN hq
  go_enter Tryd.func22, Tryd.ntmps22
  go_upto_region 1 with fail
  rw [← WR.out]
  generalize World.alloc w _ = w1 at *
  have x0 := X1.out.cell 0 _ rfl
  go_upto_region 2 with (go_at_call 21; (with_reducible refine Calls.mono KN.out ?_); rintro e w2 ⟨rfl, b2⟩; have B2 := hid b2; have C2 := hid (Bx.next C1.out b2); have P2 := hid (P1.out.next b2); have X2 := hid (Bx.next X1.out b2); clear b2)
  clear x0 KN C1 P1 X1
  have x1 := X2.out.cell 1 _ rfl
  have KK := hid (isKind_any a 2 5 w2)
  go_wp2_with (go_at_call 46; (with_reducible refine Calls.mono KK.out ?_); rintro e w4 ⟨rfl, rfl⟩)
  go_ret
  exact ⟨rfl, nxB B1.out B2.out⟩
set_option maxRecDepth 100000 in
set_option maxHeartbeats 8000000 in
theorem isThere_5 {w : World} {c : Nat} {s : S7} {p : Pg} {lv : Value} {st sk : Int} (hC : Ck w c s lv st sk) (hP : Pv w s p) (hT : RT w) (hm : s.m4 ≤ 1000000) (a b d : Int) :
    Calls Tryd.prog 22 #[.pointer (some ⟨c, 0, none⟩), .agg #[.int .i64 5, .int .i64 a, .int .i64 b, .int .i64 d]] w fun e w' => e = .returned (.bool (thB p (5, a, b, d))) ∧ Below w.heap.size w w' := by
  have X1 := hid (Bx.new w #[.int .i64 5, .int .i64 a, .int .i64 b, .int .i64 d] 37 (by decide))
  have B1 := hid (allocB w (.cells #[.int .i64 5, .int .i64 a, .int .i64 b, .int .i64 d] 37))
  have KN := hid (code_Name_any 5 _ (hT.next B1.out))
  have EN := hid (show opN 5 = ⟨#[115, 117, 98]⟩ from rfl)
  rw [EN.out] at KN
  have C1 := hid (Bx.next hC B1.out)
  have P1 := hid (hP.next B1.out)
  obtain ⟨q, hq⟩ : ∃ q, q = w.heap.size := ⟨_, rfl⟩
  have WR := hid hq
  rw [← hq] at X1
  clear hC hP hT EN hq
  go_enter Tryd.func22, Tryd.ntmps22
  go_upto_region 1 with fail
  rw [← WR.out]
  generalize World.alloc w _ = w1 at *
  have x0 := X1.out.cell 0 _ rfl
  go_upto_region 2 with (go_at_call 21; (with_reducible refine Calls.mono KN.out ?_); rintro e w2 ⟨rfl, b2⟩; have B2 := hid b2; have C2 := hid (Bx.next C1.out b2); have P2 := hid (P1.out.next b2); have X2 := hid (Bx.next X1.out b2); clear b2)
  clear x0 KN C1 P1 X1
  have x1 := X2.out.cell 1 _ rfl
  have KK := hid (isKind_any a 2 5 w2)
  go_wp2_with (go_at_call 46; (with_reducible refine Calls.mono KK.out ?_); rintro e w4 ⟨rfl, rfl⟩)
  go_ret
  exact ⟨rfl, nxB B1.out B2.out⟩
set_option maxRecDepth 100000 in
set_option maxHeartbeats 8000000 in
theorem isThere_6 {w : World} {c : Nat} {s : S7} {p : Pg} {lv : Value} {st sk : Int} (hC : Ck w c s lv st sk) (hP : Pv w s p) (hT : RT w) (hm : s.m4 ≤ 1000000) (a b d : Int) :
    Calls Tryd.prog 22 #[.pointer (some ⟨c, 0, none⟩), .agg #[.int .i64 6, .int .i64 a, .int .i64 b, .int .i64 d]] w fun e w' => e = .returned (.bool (thB p (6, a, b, d))) ∧ Below w.heap.size w w' := by
  have X1 := hid (Bx.new w #[.int .i64 6, .int .i64 a, .int .i64 b, .int .i64 d] 37 (by decide))
  have B1 := hid (allocB w (.cells #[.int .i64 6, .int .i64 a, .int .i64 b, .int .i64 d] 37))
  have KN := hid (code_Name_any 6 _ (hT.next B1.out))
  have EN := hid (show opN 6 = ⟨#[109, 117, 108]⟩ from rfl)
  rw [EN.out] at KN
  have C1 := hid (Bx.next hC B1.out)
  have P1 := hid (hP.next B1.out)
  obtain ⟨q, hq⟩ : ∃ q, q = w.heap.size := ⟨_, rfl⟩
  have WR := hid hq
  rw [← hq] at X1
  clear hC hP hT EN hq
  go_enter Tryd.func22, Tryd.ntmps22
  go_upto_region 1 with fail
  rw [← WR.out]
  generalize World.alloc w _ = w1 at *
  have x0 := X1.out.cell 0 _ rfl
  go_upto_region 2 with (go_at_call 21; (with_reducible refine Calls.mono KN.out ?_); rintro e w2 ⟨rfl, b2⟩; have B2 := hid b2; have C2 := hid (Bx.next C1.out b2); have P2 := hid (P1.out.next b2); have X2 := hid (Bx.next X1.out b2); clear b2)
  clear x0 KN C1 P1 X1
  have x1 := X2.out.cell 1 _ rfl
  have KK := hid (isKind_any a 2 4 w2)
  go_wp2_with (go_at_call 46; (with_reducible refine Calls.mono KK.out ?_); rintro e w4 ⟨rfl, rfl⟩)
  go_ret
  exact ⟨rfl, nxB B1.out B2.out⟩
set_option maxRecDepth 100000 in
set_option maxHeartbeats 8000000 in
theorem isThere_7 {w : World} {c : Nat} {s : S7} {p : Pg} {lv : Value} {st sk : Int} (hC : Ck w c s lv st sk) (hP : Pv w s p) (hT : RT w) (hm : s.m4 ≤ 1000000) (a b d : Int) :
    Calls Tryd.prog 22 #[.pointer (some ⟨c, 0, none⟩), .agg #[.int .i64 7, .int .i64 a, .int .i64 b, .int .i64 d]] w fun e w' => e = .returned (.bool (thB p (7, a, b, d))) ∧ Below w.heap.size w w' := by
  have X1 := hid (Bx.new w #[.int .i64 7, .int .i64 a, .int .i64 b, .int .i64 d] 37 (by decide))
  have B1 := hid (allocB w (.cells #[.int .i64 7, .int .i64 a, .int .i64 b, .int .i64 d] 37))
  have KN := hid (code_Name_any 7 _ (hT.next B1.out))
  have EN := hid (show opN 7 = ⟨#[100, 105, 118]⟩ from rfl)
  rw [EN.out] at KN
  have C1 := hid (Bx.next hC B1.out)
  have P1 := hid (hP.next B1.out)
  obtain ⟨q, hq⟩ : ∃ q, q = w.heap.size := ⟨_, rfl⟩
  have WR := hid hq
  rw [← hq] at X1
  clear hC hP hT EN hq
  go_enter Tryd.func22, Tryd.ntmps22
  go_upto_region 1 with fail
  rw [← WR.out]
  generalize World.alloc w _ = w1 at *
  have x0 := X1.out.cell 0 _ rfl
  go_upto_region 2 with (go_at_call 21; (with_reducible refine Calls.mono KN.out ?_); rintro e w2 ⟨rfl, b2⟩; have B2 := hid b2; have C2 := hid (Bx.next C1.out b2); have P2 := hid (P1.out.next b2); have X2 := hid (Bx.next X1.out b2); clear b2)
  clear x0 KN C1 P1 X1
  have x1 := X2.out.cell 1 _ rfl
  have KK := hid (isKind_any a 2 4 w2)
  go_wp2_with (go_at_call 46; (with_reducible refine Calls.mono KK.out ?_); rintro e w4 ⟨rfl, rfl⟩)
  go_ret
  exact ⟨rfl, nxB B1.out B2.out⟩
set_option maxRecDepth 100000 in
set_option maxHeartbeats 8000000 in
theorem isThere_8 {w : World} {c : Nat} {s : S7} {p : Pg} {lv : Value} {st sk : Int} (hC : Ck w c s lv st sk) (hP : Pv w s p) (hT : RT w) (hm : s.m4 ≤ 1000000) (a b d : Int) :
    Calls Tryd.prog 22 #[.pointer (some ⟨c, 0, none⟩), .agg #[.int .i64 8, .int .i64 a, .int .i64 b, .int .i64 d]] w fun e w' => e = .returned (.bool (thB p (8, a, b, d))) ∧ Below w.heap.size w w' := by
  have X1 := hid (Bx.new w #[.int .i64 8, .int .i64 a, .int .i64 b, .int .i64 d] 37 (by decide))
  have B1 := hid (allocB w (.cells #[.int .i64 8, .int .i64 a, .int .i64 b, .int .i64 d] 37))
  have KN := hid (code_Name_any 8 _ (hT.next B1.out))
  have EN := hid (show opN 8 = ⟨#[110, 101, 103]⟩ from rfl)
  rw [EN.out] at KN
  have C1 := hid (Bx.next hC B1.out)
  have P1 := hid (hP.next B1.out)
  obtain ⟨q, hq⟩ : ∃ q, q = w.heap.size := ⟨_, rfl⟩
  have WR := hid hq
  rw [← hq] at X1
  clear hC hP hT EN hq
  go_enter Tryd.func22, Tryd.ntmps22
  go_upto_region 1 with fail
  rw [← WR.out]
  generalize World.alloc w _ = w1 at *
  have x0 := X1.out.cell 0 _ rfl
  go_upto_region 2 with (go_at_call 21; (with_reducible refine Calls.mono KN.out ?_); rintro e w2 ⟨rfl, b2⟩; have B2 := hid b2; have C2 := hid (Bx.next C1.out b2); have P2 := hid (P1.out.next b2); have X2 := hid (Bx.next X1.out b2); clear b2)
  clear x0 KN C1 P1 X1
  have x1 := X2.out.cell 1 _ rfl
  have KK := hid (isKind_any a 2 4 w2)
  go_wp2_with (go_at_call 46; (with_reducible refine Calls.mono KK.out ?_); rintro e w4 ⟨rfl, rfl⟩)
  go_ret
  exact ⟨rfl, nxB B1.out B2.out⟩
set_option maxRecDepth 100000 in
set_option maxHeartbeats 8000000 in
theorem isThere_9 {w : World} {c : Nat} {s : S7} {p : Pg} {lv : Value} {st sk : Int} (hC : Ck w c s lv st sk) (hP : Pv w s p) (hT : RT w) (hm : s.m4 ≤ 1000000) (a b d : Int) :
    Calls Tryd.prog 22 #[.pointer (some ⟨c, 0, none⟩), .agg #[.int .i64 9, .int .i64 a, .int .i64 b, .int .i64 d]] w fun e w' => e = .returned (.bool (thB p (9, a, b, d))) ∧ Below w.heap.size w w' := by
  have X1 := hid (Bx.new w #[.int .i64 9, .int .i64 a, .int .i64 b, .int .i64 d] 37 (by decide))
  have B1 := hid (allocB w (.cells #[.int .i64 9, .int .i64 a, .int .i64 b, .int .i64 d] 37))
  have KN := hid (code_Name_any 9 _ (hT.next B1.out))
  have EN := hid (show opN 9 = ⟨#[110, 111, 116]⟩ from rfl)
  rw [EN.out] at KN
  have C1 := hid (Bx.next hC B1.out)
  have P1 := hid (hP.next B1.out)
  obtain ⟨q, hq⟩ : ∃ q, q = w.heap.size := ⟨_, rfl⟩
  have WR := hid hq
  rw [← hq] at X1
  clear hC hP hT EN hq
  go_enter Tryd.func22, Tryd.ntmps22
  go_upto_region 1 with fail
  rw [← WR.out]
  generalize World.alloc w _ = w1 at *
  have x0 := X1.out.cell 0 _ rfl
  go_upto_region 2 with (go_at_call 21; (with_reducible refine Calls.mono KN.out ?_); rintro e w2 ⟨rfl, b2⟩; have B2 := hid b2; have C2 := hid (Bx.next C1.out b2); have P2 := hid (P1.out.next b2); have X2 := hid (Bx.next X1.out b2); clear b2)
  clear x0 KN C1 P1 X1
  go_wp2_with (fail)
  go_ret
  exact ⟨rfl, nxB B1.out B2.out⟩
set_option maxRecDepth 100000 in
set_option maxHeartbeats 8000000 in
theorem isThere_10 {w : World} {c : Nat} {s : S7} {p : Pg} {lv : Value} {st sk : Int} (hC : Ck w c s lv st sk) (hP : Pv w s p) (hT : RT w) (hm : s.m4 ≤ 1000000) (a b d : Int) :
    Calls Tryd.prog 22 #[.pointer (some ⟨c, 0, none⟩), .agg #[.int .i64 10, .int .i64 a, .int .i64 b, .int .i64 d]] w fun e w' => e = .returned (.bool (thB p (10, a, b, d))) ∧ Below w.heap.size w w' := by
  have X1 := hid (Bx.new w #[.int .i64 10, .int .i64 a, .int .i64 b, .int .i64 d] 37 (by decide))
  have B1 := hid (allocB w (.cells #[.int .i64 10, .int .i64 a, .int .i64 b, .int .i64 d] 37))
  have KN := hid (code_Name_any 10 _ (hT.next B1.out))
  have EN := hid (show opN 10 = ⟨#[108, 116]⟩ from rfl)
  rw [EN.out] at KN
  have C1 := hid (Bx.next hC B1.out)
  have P1 := hid (hP.next B1.out)
  obtain ⟨q, hq⟩ : ∃ q, q = w.heap.size := ⟨_, rfl⟩
  have WR := hid hq
  rw [← hq] at X1
  clear hC hP hT EN hq
  go_enter Tryd.func22, Tryd.ntmps22
  go_upto_region 1 with fail
  rw [← WR.out]
  generalize World.alloc w _ = w1 at *
  have x0 := X1.out.cell 0 _ rfl
  go_upto_region 2 with (go_at_call 21; (with_reducible refine Calls.mono KN.out ?_); rintro e w2 ⟨rfl, b2⟩; have B2 := hid b2; have C2 := hid (Bx.next C1.out b2); have P2 := hid (P1.out.next b2); have X2 := hid (Bx.next X1.out b2); clear b2)
  clear x0 KN C1 P1 X1
  have x1 := X2.out.cell 1 _ rfl
  have KK := hid (isKind_any a 2 5 w2)
  go_wp2_with (go_at_call 46; (with_reducible refine Calls.mono KK.out ?_); rintro e w4 ⟨rfl, rfl⟩)
  go_ret
  exact ⟨rfl, nxB B1.out B2.out⟩
set_option maxRecDepth 100000 in
set_option maxHeartbeats 8000000 in
theorem isThere_11 {w : World} {c : Nat} {s : S7} {p : Pg} {lv : Value} {st sk : Int} (hC : Ck w c s lv st sk) (hP : Pv w s p) (hT : RT w) (hm : s.m4 ≤ 1000000) (a b d : Int) :
    Calls Tryd.prog 22 #[.pointer (some ⟨c, 0, none⟩), .agg #[.int .i64 11, .int .i64 a, .int .i64 b, .int .i64 d]] w fun e w' => e = .returned (.bool (thB p (11, a, b, d))) ∧ Below w.heap.size w w' := by
  have X1 := hid (Bx.new w #[.int .i64 11, .int .i64 a, .int .i64 b, .int .i64 d] 37 (by decide))
  have B1 := hid (allocB w (.cells #[.int .i64 11, .int .i64 a, .int .i64 b, .int .i64 d] 37))
  have KN := hid (code_Name_any 11 _ (hT.next B1.out))
  have EN := hid (show opN 11 = ⟨#[108, 101]⟩ from rfl)
  rw [EN.out] at KN
  have C1 := hid (Bx.next hC B1.out)
  have P1 := hid (hP.next B1.out)
  obtain ⟨q, hq⟩ : ∃ q, q = w.heap.size := ⟨_, rfl⟩
  have WR := hid hq
  rw [← hq] at X1
  clear hC hP hT EN hq
  go_enter Tryd.func22, Tryd.ntmps22
  go_upto_region 1 with fail
  rw [← WR.out]
  generalize World.alloc w _ = w1 at *
  have x0 := X1.out.cell 0 _ rfl
  go_upto_region 2 with (go_at_call 21; (with_reducible refine Calls.mono KN.out ?_); rintro e w2 ⟨rfl, b2⟩; have B2 := hid b2; have C2 := hid (Bx.next C1.out b2); have P2 := hid (P1.out.next b2); have X2 := hid (Bx.next X1.out b2); clear b2)
  clear x0 KN C1 P1 X1
  have x1 := X2.out.cell 1 _ rfl
  have KK := hid (isKind_any a 2 5 w2)
  go_wp2_with (go_at_call 46; (with_reducible refine Calls.mono KK.out ?_); rintro e w4 ⟨rfl, rfl⟩)
  go_ret
  exact ⟨rfl, nxB B1.out B2.out⟩
set_option maxRecDepth 100000 in
set_option maxHeartbeats 8000000 in
theorem isThere_12 {w : World} {c : Nat} {s : S7} {p : Pg} {lv : Value} {st sk : Int} (hC : Ck w c s lv st sk) (hP : Pv w s p) (hT : RT w) (hm : s.m4 ≤ 1000000) (a b d : Int) :
    Calls Tryd.prog 22 #[.pointer (some ⟨c, 0, none⟩), .agg #[.int .i64 12, .int .i64 a, .int .i64 b, .int .i64 d]] w fun e w' => e = .returned (.bool (thB p (12, a, b, d))) ∧ Below w.heap.size w w' := by
  have X1 := hid (Bx.new w #[.int .i64 12, .int .i64 a, .int .i64 b, .int .i64 d] 37 (by decide))
  have B1 := hid (allocB w (.cells #[.int .i64 12, .int .i64 a, .int .i64 b, .int .i64 d] 37))
  have KN := hid (code_Name_any 12 _ (hT.next B1.out))
  have EN := hid (show opN 12 = ⟨#[101, 113]⟩ from rfl)
  rw [EN.out] at KN
  have C1 := hid (Bx.next hC B1.out)
  have P1 := hid (hP.next B1.out)
  obtain ⟨q, hq⟩ : ∃ q, q = w.heap.size := ⟨_, rfl⟩
  have WR := hid hq
  rw [← hq] at X1
  clear hC hP hT EN hq
  go_enter Tryd.func22, Tryd.ntmps22
  go_upto_region 1 with fail
  rw [← WR.out]
  generalize World.alloc w _ = w1 at *
  have x0 := X1.out.cell 0 _ rfl
  go_upto_region 2 with (go_at_call 21; (with_reducible refine Calls.mono KN.out ?_); rintro e w2 ⟨rfl, b2⟩; have B2 := hid b2; have C2 := hid (Bx.next C1.out b2); have P2 := hid (P1.out.next b2); have X2 := hid (Bx.next X1.out b2); clear b2)
  clear x0 KN C1 P1 X1
  have x1 := X2.out.cell 1 _ rfl
  have KK := hid (isKind_any a 1 5 w2)
  go_wp2_with (go_at_call 46; (with_reducible refine Calls.mono KK.out ?_); rintro e w4 ⟨rfl, rfl⟩)
  go_ret
  exact ⟨rfl, nxB B1.out B2.out⟩
set_option maxRecDepth 100000 in
set_option maxHeartbeats 8000000 in
theorem isThere_13 {w : World} {c : Nat} {s : S7} {p : Pg} {lv : Value} {st sk : Int} (hC : Ck w c s lv st sk) (hP : Pv w s p) (hT : RT w) (hm : s.m4 ≤ 1000000) (a b d : Int) :
    Calls Tryd.prog 22 #[.pointer (some ⟨c, 0, none⟩), .agg #[.int .i64 13, .int .i64 a, .int .i64 b, .int .i64 d]] w fun e w' => e = .returned (.bool (thB p (13, a, b, d))) ∧ Below w.heap.size w w' := by
  have X1 := hid (Bx.new w #[.int .i64 13, .int .i64 a, .int .i64 b, .int .i64 d] 37 (by decide))
  have B1 := hid (allocB w (.cells #[.int .i64 13, .int .i64 a, .int .i64 b, .int .i64 d] 37))
  have KN := hid (code_Name_any 13 _ (hT.next B1.out))
  have EN := hid (show opN 13 = ⟨#[109, 105, 110]⟩ from rfl)
  rw [EN.out] at KN
  have C1 := hid (Bx.next hC B1.out)
  have P1 := hid (hP.next B1.out)
  obtain ⟨q, hq⟩ : ∃ q, q = w.heap.size := ⟨_, rfl⟩
  have WR := hid hq
  rw [← hq] at X1
  clear hC hP hT EN hq
  go_enter Tryd.func22, Tryd.ntmps22
  go_upto_region 1 with fail
  rw [← WR.out]
  generalize World.alloc w _ = w1 at *
  have x0 := X1.out.cell 0 _ rfl
  go_upto_region 2 with (go_at_call 21; (with_reducible refine Calls.mono KN.out ?_); rintro e w2 ⟨rfl, b2⟩; have B2 := hid b2; have C2 := hid (Bx.next C1.out b2); have P2 := hid (P1.out.next b2); have X2 := hid (Bx.next X1.out b2); clear b2)
  clear x0 KN C1 P1 X1
  have x1 := X2.out.cell 1 _ rfl
  have KK := hid (isKind_any a 2 5 w2)
  go_wp2_with (go_at_call 46; (with_reducible refine Calls.mono KK.out ?_); rintro e w4 ⟨rfl, rfl⟩)
  go_ret
  exact ⟨rfl, nxB B1.out B2.out⟩
set_option maxRecDepth 100000 in
set_option maxHeartbeats 8000000 in
theorem isThere_14 {w : World} {c : Nat} {s : S7} {p : Pg} {lv : Value} {st sk : Int} (hC : Ck w c s lv st sk) (hP : Pv w s p) (hT : RT w) (hm : s.m4 ≤ 1000000) (a b d : Int) :
    Calls Tryd.prog 22 #[.pointer (some ⟨c, 0, none⟩), .agg #[.int .i64 14, .int .i64 a, .int .i64 b, .int .i64 d]] w fun e w' => e = .returned (.bool (thB p (14, a, b, d))) ∧ Below w.heap.size w w' := by
  have X1 := hid (Bx.new w #[.int .i64 14, .int .i64 a, .int .i64 b, .int .i64 d] 37 (by decide))
  have B1 := hid (allocB w (.cells #[.int .i64 14, .int .i64 a, .int .i64 b, .int .i64 d] 37))
  have KN := hid (code_Name_any 14 _ (hT.next B1.out))
  have EN := hid (show opN 14 = ⟨#[109, 97, 120]⟩ from rfl)
  rw [EN.out] at KN
  have C1 := hid (Bx.next hC B1.out)
  have P1 := hid (hP.next B1.out)
  obtain ⟨q, hq⟩ : ∃ q, q = w.heap.size := ⟨_, rfl⟩
  have WR := hid hq
  rw [← hq] at X1
  clear hC hP hT EN hq
  go_enter Tryd.func22, Tryd.ntmps22
  go_upto_region 1 with fail
  rw [← WR.out]
  generalize World.alloc w _ = w1 at *
  have x0 := X1.out.cell 0 _ rfl
  go_upto_region 2 with (go_at_call 21; (with_reducible refine Calls.mono KN.out ?_); rintro e w2 ⟨rfl, b2⟩; have B2 := hid b2; have C2 := hid (Bx.next C1.out b2); have P2 := hid (P1.out.next b2); have X2 := hid (Bx.next X1.out b2); clear b2)
  clear x0 KN C1 P1 X1
  have x1 := X2.out.cell 1 _ rfl
  have KK := hid (isKind_any a 2 5 w2)
  go_wp2_with (go_at_call 46; (with_reducible refine Calls.mono KK.out ?_); rintro e w4 ⟨rfl, rfl⟩)
  go_ret
  exact ⟨rfl, nxB B1.out B2.out⟩
set_option maxRecDepth 100000 in
set_option maxHeartbeats 8000000 in
theorem isThere_15 {w : World} {c : Nat} {s : S7} {p : Pg} {lv : Value} {st sk : Int} (hC : Ck w c s lv st sk) (hP : Pv w s p) (hT : RT w) (hm : s.m4 ≤ 1000000) (a b d : Int) :
    Calls Tryd.prog 22 #[.pointer (some ⟨c, 0, none⟩), .agg #[.int .i64 15, .int .i64 a, .int .i64 b, .int .i64 d]] w fun e w' => e = .returned (.bool (thB p (15, a, b, d))) ∧ Below w.heap.size w w' := by
  have X1 := hid (Bx.new w #[.int .i64 15, .int .i64 a, .int .i64 b, .int .i64 d] 37 (by decide))
  have B1 := hid (allocB w (.cells #[.int .i64 15, .int .i64 a, .int .i64 b, .int .i64 d] 37))
  have KN := hid (code_Name_any 15 _ (hT.next B1.out))
  have EN := hid (show opN 15 = ⟨#[108, 101, 110]⟩ from rfl)
  rw [EN.out] at KN
  have C1 := hid (Bx.next hC B1.out)
  have P1 := hid (hP.next B1.out)
  obtain ⟨q, hq⟩ : ∃ q, q = w.heap.size := ⟨_, rfl⟩
  have WR := hid hq
  rw [← hq] at X1
  clear hC hP hT EN hq
  go_enter Tryd.func22, Tryd.ntmps22
  go_upto_region 1 with fail
  rw [← WR.out]
  generalize World.alloc w _ = w1 at *
  have x0 := X1.out.cell 0 _ rfl
  go_upto_region 2 with (go_at_call 21; (with_reducible refine Calls.mono KN.out ?_); rintro e w2 ⟨rfl, b2⟩; have B2 := hid b2; have C2 := hid (Bx.next C1.out b2); have P2 := hid (P1.out.next b2); have X2 := hid (Bx.next X1.out b2); clear b2)
  clear x0 KN C1 P1 X1
  have x1 := X2.out.cell 1 _ rfl
  have KK := hid (isList_any C2.out P2.out a)
  go_wp2_with (go_at_call 47; (with_reducible refine Calls.mono KK.out ?_); rintro e w4 ⟨rfl, rfl⟩)
  go_ret
  exact ⟨rfl, nxB B1.out B2.out⟩
set_option maxRecDepth 100000 in
set_option maxHeartbeats 8000000 in
theorem isThere_16 {w : World} {c : Nat} {s : S7} {p : Pg} {lv : Value} {st sk : Int} (hC : Ck w c s lv st sk) (hP : Pv w s p) (hT : RT w) (hm : s.m4 ≤ 1000000) (a b d : Int) :
    Calls Tryd.prog 22 #[.pointer (some ⟨c, 0, none⟩), .agg #[.int .i64 16, .int .i64 a, .int .i64 b, .int .i64 d]] w fun e w' => e = .returned (.bool (thB p (16, a, b, d))) ∧ Below w.heap.size w w' := by
  have X1 := hid (Bx.new w #[.int .i64 16, .int .i64 a, .int .i64 b, .int .i64 d] 37 (by decide))
  have B1 := hid (allocB w (.cells #[.int .i64 16, .int .i64 a, .int .i64 b, .int .i64 d] 37))
  have KN := hid (code_Name_any 16 _ (hT.next B1.out))
  have EN := hid (show opN 16 = ⟨#[97, 116]⟩ from rfl)
  rw [EN.out] at KN
  have C1 := hid (Bx.next hC B1.out)
  have P1 := hid (hP.next B1.out)
  obtain ⟨q, hq⟩ : ∃ q, q = w.heap.size := ⟨_, rfl⟩
  have WR := hid hq
  rw [← hq] at X1
  clear hC hP hT EN hq
  go_enter Tryd.func22, Tryd.ntmps22
  go_upto_region 1 with fail
  rw [← WR.out]
  generalize World.alloc w _ = w1 at *
  have x0 := X1.out.cell 0 _ rfl
  go_upto_region 2 with (go_at_call 21; (with_reducible refine Calls.mono KN.out ?_); rintro e w2 ⟨rfl, b2⟩; have B2 := hid b2; have C2 := hid (Bx.next C1.out b2); have P2 := hid (P1.out.next b2); have X2 := hid (Bx.next X1.out b2); clear b2)
  clear x0 KN C1 P1 X1
  have x1 := X2.out.cell 1 _ rfl
  have cc : w2.cell? ⟨c, 1, none⟩ = some (.slice s.a1 s.m1 s.c1) := C2.out.cell 1 _ rfl
  have KP := hid (isPlace_any a s.m1)
  have EL := hid (show plB a s.m1 = plB a (p.ts.length : Nat) from by rw [P2.out.k1.len])
  go_upto_region 27 with fail
  go_quiet ((go_at_call 45; exact qsame (KP.out _)))
  have BQ := hid (dwB w2 nq)
  generalize w2.drewN nq = w3 at *
  go_wp2_with fail
  go_ret
  exact ⟨by show _ = Ending.returned (.bool (plB a _)); rw [← EL.out]; rfl, nxB B1.out (nxB B2.out BQ.out)⟩
set_option maxRecDepth 100000 in
set_option maxHeartbeats 8000000 in
theorem isThere_17 {w : World} {c : Nat} {s : S7} {p : Pg} {lv : Value} {st sk : Int} (hC : Ck w c s lv st sk) (hP : Pv w s p) (hT : RT w) (hm : s.m4 ≤ 1000000) (a b d : Int) :
    Calls Tryd.prog 22 #[.pointer (some ⟨c, 0, none⟩), .agg #[.int .i64 17, .int .i64 a, .int .i64 b, .int .i64 d]] w fun e w' => e = .returned (.bool (thB p (17, a, b, d))) ∧ Below w.heap.size w w' := by
  have X1 := hid (Bx.new w #[.int .i64 17, .int .i64 a, .int .i64 b, .int .i64 d] 37 (by decide))
  have B1 := hid (allocB w (.cells #[.int .i64 17, .int .i64 a, .int .i64 b, .int .i64 d] 37))
  have KN := hid (code_Name_any 17 _ (hT.next B1.out))
  have EN := hid (show opN 17 = ⟨#[106, 117, 109, 112]⟩ from rfl)
  rw [EN.out] at KN
  have C1 := hid (Bx.next hC B1.out)
  have P1 := hid (hP.next B1.out)
  obtain ⟨q, hq⟩ : ∃ q, q = w.heap.size := ⟨_, rfl⟩
  have WR := hid hq
  rw [← hq] at X1
  clear hC hP hT EN hq
  go_enter Tryd.func22, Tryd.ntmps22
  go_upto_region 1 with fail
  rw [← WR.out]
  generalize World.alloc w _ = w1 at *
  have x0 := X1.out.cell 0 _ rfl
  go_upto_region 2 with (go_at_call 21; (with_reducible refine Calls.mono KN.out ?_); rintro e w2 ⟨rfl, b2⟩; have B2 := hid b2; have C2 := hid (Bx.next C1.out b2); have P2 := hid (P1.out.next b2); have X2 := hid (Bx.next X1.out b2); clear b2)
  clear x0 KN C1 P1 X1
  go_wp2_with (fail)
  go_ret
  exact ⟨rfl, nxB B1.out B2.out⟩
set_option maxRecDepth 100000 in
set_option maxHeartbeats 8000000 in
theorem isThere_18 {w : World} {c : Nat} {s : S7} {p : Pg} {lv : Value} {st sk : Int} (hC : Ck w c s lv st sk) (hP : Pv w s p) (hT : RT w) (hm : s.m4 ≤ 1000000) (a b d : Int) :
    Calls Tryd.prog 22 #[.pointer (some ⟨c, 0, none⟩), .agg #[.int .i64 18, .int .i64 a, .int .i64 b, .int .i64 d]] w fun e w' => e = .returned (.bool (thB p (18, a, b, d))) ∧ Below w.heap.size w w' := by
  have X1 := hid (Bx.new w #[.int .i64 18, .int .i64 a, .int .i64 b, .int .i64 d] 37 (by decide))
  have B1 := hid (allocB w (.cells #[.int .i64 18, .int .i64 a, .int .i64 b, .int .i64 d] 37))
  have KN := hid (code_Name_any 18 _ (hT.next B1.out))
  have EN := hid (show opN 18 = ⟨#[117, 110, 108, 101, 115, 115]⟩ from rfl)
  rw [EN.out] at KN
  have C1 := hid (Bx.next hC B1.out)
  have P1 := hid (hP.next B1.out)
  obtain ⟨q, hq⟩ : ∃ q, q = w.heap.size := ⟨_, rfl⟩
  have WR := hid hq
  rw [← hq] at X1
  clear hC hP hT EN hq
  go_enter Tryd.func22, Tryd.ntmps22
  go_upto_region 1 with fail
  rw [← WR.out]
  generalize World.alloc w _ = w1 at *
  have x0 := X1.out.cell 0 _ rfl
  go_upto_region 2 with (go_at_call 21; (with_reducible refine Calls.mono KN.out ?_); rintro e w2 ⟨rfl, b2⟩; have B2 := hid b2; have C2 := hid (Bx.next C1.out b2); have P2 := hid (P1.out.next b2); have X2 := hid (Bx.next X1.out b2); clear b2)
  clear x0 KN C1 P1 X1
  go_wp2_with (fail)
  go_ret
  exact ⟨rfl, nxB B1.out B2.out⟩
set_option maxRecDepth 100000 in
set_option maxHeartbeats 8000000 in
theorem isThere_19 {w : World} {c : Nat} {s : S7} {p : Pg} {lv : Value} {st sk : Int} (hC : Ck w c s lv st sk) (hP : Pv w s p) (hT : RT w) (hm : s.m4 ≤ 1000000) (a b d : Int) :
    Calls Tryd.prog 22 #[.pointer (some ⟨c, 0, none⟩), .agg #[.int .i64 19, .int .i64 a, .int .i64 b, .int .i64 d]] w fun e w' => e = .returned (.bool (thB p (19, a, b, d))) ∧ Below w.heap.size w w' := by
  rw [show thB p (19, a, b, d) = (liB p a && paB p b) from rfl]
  cases z : liB p a with
  | false =>
    have X1 := hid (Bx.new w #[.int .i64 19, .int .i64 a, .int .i64 b, .int .i64 d] 37 (by decide))
    have B1 := hid (allocB w (.cells #[.int .i64 19, .int .i64 a, .int .i64 b, .int .i64 d] 37))
    have KN := hid (code_Name_any 19 _ (hT.next B1.out))
    have EN := hid (show opN 19 = ⟨#[102, 105, 114, 115, 116]⟩ from rfl)
    rw [EN.out] at KN
    have C1 := hid (Bx.next hC B1.out)
    have P1 := hid (hP.next B1.out)
    obtain ⟨q, hq⟩ : ∃ q, q = w.heap.size := ⟨_, rfl⟩
    have WR := hid hq
    rw [← hq] at X1
    clear hC hP hT EN hq
    go_enter Tryd.func22, Tryd.ntmps22
    go_upto_region 1 with fail
    rw [← WR.out]
    generalize World.alloc w _ = w1 at *
    have x0 := X1.out.cell 0 _ rfl
    go_upto_region 2 with (go_at_call 21; (with_reducible refine Calls.mono KN.out ?_); rintro e w2 ⟨rfl, b2⟩; have B2 := hid b2; have C2 := hid (Bx.next C1.out b2); have P2 := hid (P1.out.next b2); have X2 := hid (Bx.next X1.out b2); clear b2)
    clear x0 KN C1 P1 X1
    have x1 := X2.out.cell 1 _ rfl
    have x2 := X2.out.cell 2 _ rfl
    have KK := hid (isList_any C2.out P2.out a)
    have KQ := hid (isPair_any C2.out P2.out hm b)
    rw [z] at KK
    go_wp2_with (first | (go_at_call 47; (with_reducible refine Calls.mono KK.out ?_); rintro e w4 ⟨rfl, rfl⟩) | (go_at_call 48; (with_reducible refine Calls.mono KQ.out ?_); rintro e w4 ⟨rfl, rfl⟩))
    go_ret
    exact ⟨rfl, nxB B1.out B2.out⟩
  | true =>
    rw [Bool.true_and]
    have X1 := hid (Bx.new w #[.int .i64 19, .int .i64 a, .int .i64 b, .int .i64 d] 37 (by decide))
    have B1 := hid (allocB w (.cells #[.int .i64 19, .int .i64 a, .int .i64 b, .int .i64 d] 37))
    have KN := hid (code_Name_any 19 _ (hT.next B1.out))
    have EN := hid (show opN 19 = ⟨#[102, 105, 114, 115, 116]⟩ from rfl)
    rw [EN.out] at KN
    have C1 := hid (Bx.next hC B1.out)
    have P1 := hid (hP.next B1.out)
    obtain ⟨q, hq⟩ : ∃ q, q = w.heap.size := ⟨_, rfl⟩
    have WR := hid hq
    rw [← hq] at X1
    clear hC hP hT EN hq
    go_enter Tryd.func22, Tryd.ntmps22
    go_upto_region 1 with fail
    rw [← WR.out]
    generalize World.alloc w _ = w1 at *
    have x0 := X1.out.cell 0 _ rfl
    go_upto_region 2 with (go_at_call 21; (with_reducible refine Calls.mono KN.out ?_); rintro e w2 ⟨rfl, b2⟩; have B2 := hid b2; have C2 := hid (Bx.next C1.out b2); have P2 := hid (P1.out.next b2); have X2 := hid (Bx.next X1.out b2); clear b2)
    clear x0 KN C1 P1 X1
    have x1 := X2.out.cell 1 _ rfl
    have x2 := X2.out.cell 2 _ rfl
    have KK := hid (isList_any C2.out P2.out a)
    have KQ := hid (isPair_any C2.out P2.out hm b)
    rw [z] at KK
    go_wp2_with (first | (go_at_call 47; (with_reducible refine Calls.mono KK.out ?_); rintro e w4 ⟨rfl, rfl⟩) | (go_at_call 48; (with_reducible refine Calls.mono KQ.out ?_); rintro e w4 ⟨rfl, rfl⟩))
    go_ret
    exact ⟨rfl, nxB B1.out B2.out⟩
set_option maxRecDepth 100000 in
set_option maxHeartbeats 8000000 in
theorem isThere_20 {w : World} {c : Nat} {s : S7} {p : Pg} {lv : Value} {st sk : Int} (hC : Ck w c s lv st sk) (hP : Pv w s p) (hT : RT w) (hm : s.m4 ≤ 1000000) (a b d : Int) :
    Calls Tryd.prog 22 #[.pointer (some ⟨c, 0, none⟩), .agg #[.int .i64 20, .int .i64 a, .int .i64 b, .int .i64 d]] w fun e w' => e = .returned (.bool (thB p (20, a, b, d))) ∧ Below w.heap.size w w' := by
  rw [show thB p (20, a, b, d) = (liB p a && paB p b) from rfl]
  cases z : liB p a with
  | false =>
    have X1 := hid (Bx.new w #[.int .i64 20, .int .i64 a, .int .i64 b, .int .i64 d] 37 (by decide))
    have B1 := hid (allocB w (.cells #[.int .i64 20, .int .i64 a, .int .i64 b, .int .i64 d] 37))
    have KN := hid (code_Name_any 20 _ (hT.next B1.out))
    have EN := hid (show opN 20 = ⟨#[110, 101, 120, 116]⟩ from rfl)
    rw [EN.out] at KN
    have C1 := hid (Bx.next hC B1.out)
    have P1 := hid (hP.next B1.out)
    obtain ⟨q, hq⟩ : ∃ q, q = w.heap.size := ⟨_, rfl⟩
    have WR := hid hq
    rw [← hq] at X1
    clear hC hP hT EN hq
    go_enter Tryd.func22, Tryd.ntmps22
    go_upto_region 1 with fail
    rw [← WR.out]
    generalize World.alloc w _ = w1 at *
    have x0 := X1.out.cell 0 _ rfl
    go_upto_region 2 with (go_at_call 21; (with_reducible refine Calls.mono KN.out ?_); rintro e w2 ⟨rfl, b2⟩; have B2 := hid b2; have C2 := hid (Bx.next C1.out b2); have P2 := hid (P1.out.next b2); have X2 := hid (Bx.next X1.out b2); clear b2)
    clear x0 KN C1 P1 X1
    have x1 := X2.out.cell 1 _ rfl
    have x2 := X2.out.cell 2 _ rfl
    have KK := hid (isList_any C2.out P2.out a)
    have KQ := hid (isPair_any C2.out P2.out hm b)
    rw [z] at KK
    go_wp2_with (first | (go_at_call 47; (with_reducible refine Calls.mono KK.out ?_); rintro e w4 ⟨rfl, rfl⟩) | (go_at_call 48; (with_reducible refine Calls.mono KQ.out ?_); rintro e w4 ⟨rfl, rfl⟩))
    go_ret
    exact ⟨rfl, nxB B1.out B2.out⟩
  | true =>
    rw [Bool.true_and]
    have X1 := hid (Bx.new w #[.int .i64 20, .int .i64 a, .int .i64 b, .int .i64 d] 37 (by decide))
    have B1 := hid (allocB w (.cells #[.int .i64 20, .int .i64 a, .int .i64 b, .int .i64 d] 37))
    have KN := hid (code_Name_any 20 _ (hT.next B1.out))
    have EN := hid (show opN 20 = ⟨#[110, 101, 120, 116]⟩ from rfl)
    rw [EN.out] at KN
    have C1 := hid (Bx.next hC B1.out)
    have P1 := hid (hP.next B1.out)
    obtain ⟨q, hq⟩ : ∃ q, q = w.heap.size := ⟨_, rfl⟩
    have WR := hid hq
    rw [← hq] at X1
    clear hC hP hT EN hq
    go_enter Tryd.func22, Tryd.ntmps22
    go_upto_region 1 with fail
    rw [← WR.out]
    generalize World.alloc w _ = w1 at *
    have x0 := X1.out.cell 0 _ rfl
    go_upto_region 2 with (go_at_call 21; (with_reducible refine Calls.mono KN.out ?_); rintro e w2 ⟨rfl, b2⟩; have B2 := hid b2; have C2 := hid (Bx.next C1.out b2); have P2 := hid (P1.out.next b2); have X2 := hid (Bx.next X1.out b2); clear b2)
    clear x0 KN C1 P1 X1
    have x1 := X2.out.cell 1 _ rfl
    have x2 := X2.out.cell 2 _ rfl
    have KK := hid (isList_any C2.out P2.out a)
    have KQ := hid (isPair_any C2.out P2.out hm b)
    rw [z] at KK
    go_wp2_with (first | (go_at_call 47; (with_reducible refine Calls.mono KK.out ?_); rintro e w4 ⟨rfl, rfl⟩) | (go_at_call 48; (with_reducible refine Calls.mono KQ.out ?_); rintro e w4 ⟨rfl, rfl⟩))
    go_ret
    exact ⟨rfl, nxB B1.out B2.out⟩
set_option maxRecDepth 100000 in
set_option maxHeartbeats 8000000 in
theorem isThere_21 {w : World} {c : Nat} {s : S7} {p : Pg} {lv : Value} {st sk : Int} (hC : Ck w c s lv st sk) (hP : Pv w s p) (hT : RT w) (hm : s.m4 ≤ 1000000) (a b d : Int) :
    Calls Tryd.prog 22 #[.pointer (some ⟨c, 0, none⟩), .agg #[.int .i64 21, .int .i64 a, .int .i64 b, .int .i64 d]] w fun e w' => e = .returned (.bool (thB p (21, a, b, d))) ∧ Below w.heap.size w w' := by
  have X1 := hid (Bx.new w #[.int .i64 21, .int .i64 a, .int .i64 b, .int .i64 d] 37 (by decide))
  have B1 := hid (allocB w (.cells #[.int .i64 21, .int .i64 a, .int .i64 b, .int .i64 d] 37))
  have KN := hid (code_Name_any 21 _ (hT.next B1.out))
  have EN := hid (show opN 21 = ⟨#[109, 97, 114, 107]⟩ from rfl)
  rw [EN.out] at KN
  have C1 := hid (Bx.next hC B1.out)
  have P1 := hid (hP.next B1.out)
  obtain ⟨q, hq⟩ : ∃ q, q = w.heap.size := ⟨_, rfl⟩
  have WR := hid hq
  rw [← hq] at X1
  clear hC hP hT EN hq
  go_enter Tryd.func22, Tryd.ntmps22
  go_upto_region 1 with fail
  rw [← WR.out]
  generalize World.alloc w _ = w1 at *
  have x0 := X1.out.cell 0 _ rfl
  go_upto_region 2 with (go_at_call 21; (with_reducible refine Calls.mono KN.out ?_); rintro e w2 ⟨rfl, b2⟩; have B2 := hid b2; have C2 := hid (Bx.next C1.out b2); have P2 := hid (P1.out.next b2); have X2 := hid (Bx.next X1.out b2); clear b2)
  clear x0 KN C1 P1 X1
  have x1 := X2.out.cell 1 _ rfl
  have cc : w2.cell? ⟨c, 3, none⟩ = some (.slice s.a3 s.m3 s.c3) := C2.out.cell 3 _ rfl
  have KP := hid (isPlace_any a s.m3)
  have EL := hid (show plB a s.m3 = plB a (p.outs.length : Nat) from by rw [P2.out.k3.len])
  go_upto_region 33 with fail
  go_quiet ((go_at_call 45; exact qsame (KP.out _)))
  have BQ := hid (dwB w2 nq)
  generalize w2.drewN nq = w3 at *
  go_wp2_with fail
  go_ret
  exact ⟨by show _ = Ending.returned (.bool (plB a _)); rw [← EL.out]; rfl, nxB B1.out (nxB B2.out BQ.out)⟩
set_option maxRecDepth 100000 in
set_option maxHeartbeats 8000000 in
theorem isThere_22 {w : World} {c : Nat} {s : S7} {p : Pg} {lv : Value} {st sk : Int} (hC : Ck w c s lv st sk) (hP : Pv w s p) (hT : RT w) (hm : s.m4 ≤ 1000000) (a b d : Int) :
    Calls Tryd.prog 22 #[.pointer (some ⟨c, 0, none⟩), .agg #[.int .i64 22, .int .i64 a, .int .i64 b, .int .i64 d]] w fun e w' => e = .returned (.bool (thB p (22, a, b, d))) ∧ Below w.heap.size w w' := by
  have X1 := hid (Bx.new w #[.int .i64 22, .int .i64 a, .int .i64 b, .int .i64 d] 37 (by decide))
  have B1 := hid (allocB w (.cells #[.int .i64 22, .int .i64 a, .int .i64 b, .int .i64 d] 37))
  have KN := hid (code_Name_any 22 _ (hT.next B1.out))
  have EN := hid (show opN 22 = ⟨#[111, 117, 116]⟩ from rfl)
  rw [EN.out] at KN
  have C1 := hid (Bx.next hC B1.out)
  have P1 := hid (hP.next B1.out)
  obtain ⟨q, hq⟩ : ∃ q, q = w.heap.size := ⟨_, rfl⟩
  have WR := hid hq
  rw [← hq] at X1
  clear hC hP hT EN hq
  go_enter Tryd.func22, Tryd.ntmps22
  go_upto_region 1 with fail
  rw [← WR.out]
  generalize World.alloc w _ = w1 at *
  have x0 := X1.out.cell 0 _ rfl
  go_upto_region 2 with (go_at_call 21; (with_reducible refine Calls.mono KN.out ?_); rintro e w2 ⟨rfl, b2⟩; have B2 := hid b2; have C2 := hid (Bx.next C1.out b2); have P2 := hid (P1.out.next b2); have X2 := hid (Bx.next X1.out b2); clear b2)
  clear x0 KN C1 P1 X1
  have x1 := X2.out.cell 1 _ rfl
  have cc : w2.cell? ⟨c, 3, none⟩ = some (.slice s.a3 s.m3 s.c3) := C2.out.cell 3 _ rfl
  have KP := hid (isPlace_any a s.m3)
  have EL := hid (show plB a s.m3 = plB a (p.outs.length : Nat) from by rw [P2.out.k3.len])
  go_upto_region 33 with fail
  go_quiet ((go_at_call 45; exact qsame (KP.out _)))
  have BQ := hid (dwB w2 nq)
  generalize w2.drewN nq = w3 at *
  go_wp2_with fail
  go_ret
  exact ⟨by show _ = Ending.returned (.bool (plB a _)); rw [← EL.out]; rfl, nxB B1.out (nxB B2.out BQ.out)⟩
set_option maxRecDepth 100000 in
set_option maxHeartbeats 8000000 in
theorem isThere_23 {w : World} {c : Nat} {s : S7} {p : Pg} {lv : Value} {st sk : Int} (hC : Ck w c s lv st sk) (hP : Pv w s p) (hT : RT w) (hm : s.m4 ≤ 1000000) (a b d : Int) :
    Calls Tryd.prog 22 #[.pointer (some ⟨c, 0, none⟩), .agg #[.int .i64 23, .int .i64 a, .int .i64 b, .int .i64 d]] w fun e w' => e = .returned (.bool (thB p (23, a, b, d))) ∧ Below w.heap.size w w' := by
  have X1 := hid (Bx.new w #[.int .i64 23, .int .i64 a, .int .i64 b, .int .i64 d] 37 (by decide))
  have B1 := hid (allocB w (.cells #[.int .i64 23, .int .i64 a, .int .i64 b, .int .i64 d] 37))
  have KN := hid (code_Name_any 23 _ (hT.next B1.out))
  have EN := hid (show opN 23 = ⟨#[104, 97, 108, 116]⟩ from rfl)
  rw [EN.out] at KN
  have C1 := hid (Bx.next hC B1.out)
  have P1 := hid (hP.next B1.out)
  obtain ⟨q, hq⟩ : ∃ q, q = w.heap.size := ⟨_, rfl⟩
  have WR := hid hq
  rw [← hq] at X1
  clear hC hP hT EN hq
  go_enter Tryd.func22, Tryd.ntmps22
  go_upto_region 1 with fail
  rw [← WR.out]
  generalize World.alloc w _ = w1 at *
  have x0 := X1.out.cell 0 _ rfl
  go_upto_region 2 with (go_at_call 21; (with_reducible refine Calls.mono KN.out ?_); rintro e w2 ⟨rfl, b2⟩; have B2 := hid b2; have C2 := hid (Bx.next C1.out b2); have P2 := hid (P1.out.next b2); have X2 := hid (Bx.next X1.out b2); clear b2)
  clear x0 KN C1 P1 X1
  go_wp2_with (fail)
  go_ret
  exact ⟨rfl, nxB B1.out B2.out⟩
set_option maxRecDepth 100000 in
set_option maxHeartbeats 8000000 in
theorem isThere_no {w : World} {c : Nat} {s : S7} {p : Pg} {lv : Value} {st sk : Int} (hC : Ck w c s lv st sk) (hP : Pv w s p) (hT : RT w) (hm : s.m4 ≤ 1000000) (op a b d : Int) (ho : ¬ (0 ≤ op ∧ op < 24)) :
    Calls Tryd.prog 22 #[.pointer (some ⟨c, 0, none⟩), .agg #[.int .i64 op, .int .i64 a, .int .i64 b, .int .i64 d]] w fun e w' => e = .returned (.bool (thB p (op, a, b, d))) ∧ Below w.heap.size w w' := by
  have HL := hid (show thB p (op, a, b, d) = false from by
    unfold thB
    dsimp only
    rw [if_neg (by omega), if_neg (by omega), if_neg (by omega), if_neg (by omega), if_neg (by omega), if_neg (by omega), if_neg (by omega), if_neg (by omega), if_neg (by omega), if_neg (by omega)]
    exact decide_eq_false ho)
  have X1 := hid (Bx.new w #[.int .i64 op, .int .i64 a, .int .i64 b, .int .i64 d] 37 (by decide))
  have B1 := hid (allocB w (.cells #[.int .i64 op, .int .i64 a, .int .i64 b, .int .i64 d] 37))
  have KN := hid (code_Name_any op _ (hT.next B1.out))
  have EN := hid (show opN op = ⟨#[]⟩ from opN_no ho)
  rw [EN.out] at KN
  have C1 := hid (Bx.next hC B1.out)
  have P1 := hid (hP.next B1.out)
  obtain ⟨q, hq⟩ : ∃ q, q = w.heap.size := ⟨_, rfl⟩
  have WR := hid hq
  rw [← hq] at X1
  clear hC hP hT EN hq
  go_enter Tryd.func22, Tryd.ntmps22
  go_upto_region 1 with fail
  rw [← WR.out]
  generalize World.alloc w _ = w1 at *
  have x0 := X1.out.cell 0 _ rfl
  go_upto_region 2 with (go_at_call 21; (with_reducible refine Calls.mono KN.out ?_); rintro e w2 ⟨rfl, b2⟩; have B2 := hid b2; have C2 := hid (Bx.next C1.out b2); have P2 := hid (P1.out.next b2); have X2 := hid (Bx.next X1.out b2); clear b2)
  clear x0 KN C1 P1 X1
  go_wp2_with fail
  go_ret
  exact ⟨by rw [HL.out]; rfl, nxB B1.out B2.out⟩
theorem isThere_any {w : World} {c : Nat} {s : S7} {p : Pg} {lv : Value} {st sk : Int} (hC : Ck w c s lv st sk) (hP : Pv w s p) (hT : RT w) (hm : s.m4 ≤ 1000000) (i : Ins) :
    Calls Tryd.prog 22 #[.pointer (some ⟨c, 0, none⟩), .agg #[.int .i64 i.1, .int .i64 i.2.1, .int .i64 i.2.2.1, .int .i64 i.2.2.2]] w fun e w' => e = .returned (.bool (thB p i)) ∧ Below w.heap.size w w' := by
  obtain ⟨op, a, b, d⟩ := i
  rcases op_cases op with rfl | rfl | rfl | rfl | rfl | rfl | rfl | rfl | rfl | rfl | rfl | rfl | rfl | rfl | rfl | rfl | rfl | rfl | rfl | rfl | rfl | rfl | rfl | rfl | ho
  · exact isThere_0 hC hP hT hm a b d
  · exact isThere_1 hC hP hT hm a b d
  · exact isThere_2 hC hP hT hm a b d
  · exact isThere_3 hC hP hT hm a b d
  · exact isThere_4 hC hP hT hm a b d
  · exact isThere_5 hC hP hT hm a b d
  · exact isThere_6 hC hP hT hm a b d
  · exact isThere_7 hC hP hT hm a b d
  · exact isThere_8 hC hP hT hm a b d
  · exact isThere_9 hC hP hT hm a b d
  · exact isThere_10 hC hP hT hm a b d
  · exact isThere_11 hC hP hT hm a b d
  · exact isThere_12 hC hP hT hm a b d
  · exact isThere_13 hC hP hT hm a b d
  · exact isThere_14 hC hP hT hm a b d
  · exact isThere_15 hC hP hT hm a b d
  · exact isThere_16 hC hP hT hm a b d
  · exact isThere_17 hC hP hT hm a b d
  · exact isThere_18 hC hP hT hm a b d
  · exact isThere_19 hC hP hT hm a b d
  · exact isThere_20 hC hP hT hm a b d
  · exact isThere_21 hC hP hT hm a b d
  · exact isThere_22 hC hP hT hm a b d
  · exact isThere_23 hC hP hT hm a b d
  · exact isThere_no hC hP hT hm op a b d ho

end Go.Proofs.YtjkbiglnpoeddaaDoor.Vf
