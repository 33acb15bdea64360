/- The walk over package frame: Add, where it writes nothing. -/
import Derived.Test.YtblmfkdcahhhbaaDoorH6
namespace Go.Proofs.YtblmfkdcahhhbaaDoor
open Go.RowKit
set_option linter.unusedVariables false
set_option linter.unusedSimpArgs false

theorem drewB {B : Nat} {w w' : World} (b : Below B w w') (k : Nat) : Below B w (w'.drewN k) := b.trans ⟨rfl, rfl, rfl, Nat.le_refl _, fun _ _ => rfl⟩
/-- What Add leaves. -/
structure AddP (w : World) (pa p q N : Nat) (v : Value) (r : Ans) (e : Ending) (w' : World) : Prop where
  ret : e = .returned (.tuple #[.int .i64 r.pos, .int .i64 r.err])
  d : Dk w' p q N r.s
  am : ∃ v', Am w' pa p r.a v' ∧ (v'.ownBlock = v.ownBlock ∨ ∃ g, v'.ownBlock = some g ∧ w.heap.size ≤ g)
  ch : Ch1 (p :: q :: pa :: vb v) w w'
theorem AddP.same {w w' : World} {pa p q N : Nat} {v : Value} {s : St} {ar : Ar} {x y : Int} (h : Am w pa p ar v) (d : Dk w p q N s) (b : Below w.heap.size w w') : AddP w pa p q N v ⟨x, y, s, ar⟩ (.returned (.tuple #[.int .i64 x, .int .i64 y])) w' :=
  ⟨rfl, d.below b, ⟨v, h.below b, Or.inl rfl⟩, Ch1.of_below b⟩
theorem addG_big {N : Nat} {s : St} {a : Ar} {k : Int} {b : List Int} (h : 1000 < b.length) : addG N s a k b = ⟨0, 2, s, a⟩ := if_pos h
theorem addG_over {N : Nat} {s : St} {a : Ar} {k : Int} {b : List Int} (h : b.length ≤ 1000) (h1 : s.lives ≠ a.lives) : addG N s a k b = ⟨0, 4, s, a⟩ := by unfold addG; rw [if_neg (by omega), if_pos h1]
theorem addG_full {N : Nat} {s : St} {a : Ar} {k : Int} {b : List Int} (h : b.length ≤ 1000) (h1 : s.lives = a.lives) (h2 : a.count - used a.fs < fsize b.length) : addG N s a k b = ⟨0, 6, s, a⟩ := by unfold addG; rw [if_neg (by omega), if_neg (by simp [h1]), if_pos h2]
theorem addG_bad {N : Nat} {s : St} {a : Ar} {k : Int} {b : List Int} (h : b.length ≤ 1000) (h1 : s.lives = a.lives) (h2 : fsize b.length ≤ a.count - used a.fs) (h3 : (addW N s a k b).1 ≠ 0) : addG N s a k b = ⟨0, (addW N s a k b).1, (addW N s a k b).2, a⟩ := by unfold addG; rw [if_neg (by omega), if_neg (by simp [h1]), if_neg (by omega), if_neg h3]
theorem addG_good {N : Nat} {s : St} {a : Ar} {k : Int} {b : List Int} (h : b.length ≤ 1000) (h1 : s.lives = a.lives) (h2 : fsize b.length ≤ a.count - used a.fs) (h3 : (addW N s a k b).1 = 0) : addG N s a k b = ⟨(used a.fs : Nat), 0, (addW N s a k b).2, { a with fs := a.fs ++ [⟨used a.fs, k, b⟩] }⟩ := by unfold addG; rw [if_neg (by omega), if_neg (by simp [h1]), if_neg (by omega), if_pos h3]

set_option maxHeartbeats 2000000 in
theorem Add_big (w : World) (pa p q N : Nat) (s : St) (ar : Ar) (v : Value) (h : Am w pa p ar v) (d : Dk w p q N s) (kd : Int) (a : Option Addr) (m c : Nat) (bs : List Int) (y : By w a m c bs) (hm : 1000 < m) :
    Calls Tryd.prog 10 #[.pointer (some ⟨pa, 0, none⟩), .int .u8 kd, .slice a m c] w fun e w' => AddP w pa p q N v (addG N s ar kd bs) e w' := by
  rw [addG_big (by rw [y.len]; exact hm)]
  have hm' : (1000 : Int) < (m : Int) := by omega
  have H : Hid _ := h
  have D : Hid _ := d
  clear h d y
  go_enter Tryd.func10, Tryd.ntmps10
  go_wp2
  refine bodyPost_ret (v := .tuple #[.int .i64 0, .int .i64 2]) (by simp [results, Tryd.results10, go_sem]) rfl ?_
  exact AddP.same H.out D.out ((((Below.refl _ _).alloc (Nat.le_refl _) _).alloc (by simp) _).alloc (by simp; omega) _)
set_option maxHeartbeats 2000000 in
theorem Add_over (w : World) (pa p q N : Nat) (s : St) (ar : Ar) (v : Value) (h : Am w pa p ar v) (d : Dk w p q N s) (kd : Int) (a : Option Addr) (m c : Nat) (bs : List Int) (y : By w a m c bs) (hm : m ≤ 1000) (hl : s.lives ≠ ar.lives) :
    Calls Tryd.prog 10 #[.pointer (some ⟨pa, 0, none⟩), .int .u8 kd, .slice a m c] w fun e w' => AddP w pa p q N v (addG N s ar kd bs) e w' := by
  rw [addG_over (by rw [y.len]; exact hm) hl]
  have hm' : ¬ (1000 : Int) < (m : Int) := by omega
  have dl : ((s.lives : Int) != (ar.lives : Int)) = true := by rw [bne_iff_ne]; omega
  have H : Hid _ := h
  have D : Hid _ := d
  have b3 : Hid (Below w.heap.size w (((w.alloc (.cells #[.pointer (some ⟨pa, 0, none⟩)] 27)).alloc (.cells #[.int .i64 0] 3)).alloc (.cells #[.int .i64 0] 24))) := (((Below.refl _ _).alloc (Nat.le_refl _) _).alloc (by simp) _).alloc (by simp; omega) _
  have DN : Hid _ := done_any _ pa p q N s ar v (H.out.below b3.out) (D.out.below b3.out)
  rw [dl] at DN
  clear h d y dl hl
  go_enter Tryd.func10, Tryd.ntmps10
  go_wp2_with (go_at_call 33; refine Calls.mono DN.out ?_; rintro e w1 ⟨rfl, k, rfl⟩)
  refine bodyPost_ret (v := .tuple #[.int .i64 0, .int .i64 4]) (by simp [results, Tryd.results10, go_sem]) rfl ?_
  exact AddP.same H.out D.out (((drewB b3.out k).setCell (by show _ ≤ w.heap.size + 1; omega) _).setCell (by show _ ≤ w.heap.size + 1 + 1; omega) _)
/-- The three boxes that Add begins with. -/
structure Add3 (w W : World) (pa : Nat) : Prop where
  b0 : Boxed W w.heap.size 27 (.pointer (some ⟨pa, 0, none⟩))
  b1 : Boxed W (w.heap.size + 1) 3 (.int .i64 0)
  b2 : Boxed W (w.heap.size + 1 + 1) 24 (.int .i64 0)
  bel : Below w.heap.size w W
theorem add3 (w : World) (pa : Nat) : Add3 w (((w.alloc (.cells #[.pointer (some ⟨pa, 0, none⟩)] 27)).alloc (.cells #[.int .i64 0] 3)).alloc (.cells #[.int .i64 0] 24)) pa := by
  have h0 := Boxed.new w 27 (.pointer (some ⟨pa, 0, none⟩))
  have h1 := Boxed.new (w.alloc (.cells #[.pointer (some ⟨pa, 0, none⟩)] 27)) 3 (.int .i64 0)
  have h2 := Boxed.new ((w.alloc (.cells #[.pointer (some ⟨pa, 0, none⟩)] 27)).alloc (.cells #[.int .i64 0] 3)) 24 (.int .i64 0)
  rw [World.size_alloc] at h1 h2
  rw [World.size_alloc] at h2
  exact ⟨(h0.alloc _).alloc _, h1.alloc _, h2, (((Below.refl _ _).alloc (Nat.le_refl _) _).alloc (by simp) _).alloc (by simp; omega) _⟩
theorem Add3.drewN {w W : World} {pa : Nat} (h : Add3 w W pa) (k : Nat) : Add3 w (W.drewN k) pa := ⟨h.b0, h.b1, h.b2, drewB h.bel k⟩
set_option maxRecDepth 100000 in
set_option maxHeartbeats 4000000 in
theorem Add_full (w : World) (pa p q N : Nat) (s : St) (ar : Ar) (v : Value) (h : Am w pa p ar v) (d : Dk w p q N s) (ok : ArOk N ar) (kd : Int) (a : Option Addr) (m c : Nat) (bs : List Int) (y : By w a m c bs) (hm : m ≤ 1000) (hl : s.lives = ar.lives) (hf : ar.count - used ar.fs < fsize m) :
    Calls Tryd.prog 10 #[.pointer (some ⟨pa, 0, none⟩), .int .u8 kd, .slice a m c] w fun e w' => AddP w pa p q N v (addG N s ar kd bs) e w' := by
  rw [addG_full (by rw [y.len]; exact hm) hl (by rw [y.len]; exact hf)]
  have hm' : ¬ (1000 : Int) < (m : Int) := by omega
  have dl : ((s.lives : Int) != (ar.lives : Int)) = false := by rw [bne_eq_false_iff_eq]; omega
  have H : Hid _ := h
  have D : Hid _ := d
  have OK : Hid _ := ok
  have A3 : Hid _ := add3 w pa
  have DN : Hid _ := done_any _ pa p q N s ar v (H.out.below A3.out.bel) (D.out.below A3.out.bel)
  rw [dl] at DN
  have SZ : Hid _ := fun W => (Size_any m W hm).mono fun e w' ⟨a, b⟩ => (⟨a, b.symm⟩ : e = _ ∧ w' = _)
  have hf' : ((ar.count - used ar.fs : Nat) : Int) < (fsize m : Int) := by omega
  have HM : Hid _ := hm
  clear h d y dl hl ok hm hf
  go_enter Tryd.func10, Tryd.ntmps10
  go_wp2_with fail
  refine Calls.mono DN.out ?_
  rintro e w1 ⟨rfl, k, rfl⟩
  have A4 : Hid _ := A3.out.drewN k
  generalize ((((w.alloc (.cells #[.pointer (some ⟨pa, 0, none⟩)] 27)).alloc (.cells #[.int .i64 0] 3)).alloc (.cells #[.int .i64 0] 24)).drewN k) = w1 at *
  clear A3 DN
  have c0 := A4.out.b0.cell
  have RM : Hid _ := fun j => Room_any (w1.drewN j) pa p N ar v ((H.out.below A4.out.bel).drewN j) OK.out
  go_upto_region 5 with fail
  go_quiet (first | (go_at_call 13; exact Calls.quiet_of_same (SZ.out _)) | (go_at_call 27; exact Calls.quiet_of (RM.out _)))
  have A5 : Hid _ := A4.out.drewN nq
  clear c0
  generalize w1.drewN nq = w2 at *
  have c1 := A5.out.b1.cell
  have c2 := A5.out.b2.cell
  have f1 := A5.out.b1.frozen
  have f2 := A5.out.b2.frozen
  go_wp2
  refine bodyPost_ret (v := .tuple #[.int .i64 0, .int .i64 6]) (by simp [results, Tryd.results10, go_sem, c1, c2, f1, f2]) rfl ?_
  exact AddP.same H.out D.out ((A5.out.bel.setCell (by show _ ≤ w.heap.size + 1; omega) _).setCell (by show _ ≤ w.heap.size + 1 + 1; omega) _)

end Go.Proofs.YtblmfkdcahhhbaaDoor
