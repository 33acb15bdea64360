/- The walks over package cal, on: a field of figures, the pattern, a text read. -/
import Derived.Test.YtobolipjgkabhaaDoorW4
import Derived.Deep.RegionHeld3
import Derived.Deep.QuietTactic
namespace Go.Proofs.YtobolipjgkabhaaDoor
open Go.RowKit
set_option linter.unusedVariables false
set_option linter.unusedSimpArgs false

def dig (c : UInt8) : Int := (c.toNat : Int) - 48
def isDig (c : UInt8) : Bool := decide (48 ≤ (c.toNat : Int)) && decide ((c.toNat : Int) ≤ 57)
theorem isDig_of {c : UInt8} (h : isDig c = true) : 48 ≤ (c.toNat : Int) ∧ (c.toNat : Int) ≤ 57 := by unfold isDig at h; simpa using h

theorem bytes_laid (s : ByteArray) (w : World) : ∃ (W : World) (cap : Nat), (convert 9 42 (.string s)).run Tryd.prog w = .ok (.slice (some ⟨w.heap.size, 0, none⟩) s.size cap) W ∧
    (∀ j (hj : j < s.data.size), W.cell? ⟨w.heap.size, j, none⟩ = some (.int .u8 (s.data[j].toNat : Int))) ∧ Below w.heap.size w W := by
  refine ⟨_, _, run_bytes_of_string (P := Tryd.prog) w 9 42 5 s Tryd.underlying9 Tryd.underlying42 Tryd.underlying5, fun j hj => ?_, ?_⟩
  · have := World.cell?_alloc_mark w.drew (bytesRow s (grownCap w s.size 0 5)) 5 ((bytesRow s (grownCap w s.size 0 5)).size, (bytesRow s (grownCap w s.size 0 5)).size + 1) j
    rw [bytesRow_at s _ j hj] at this
    exact this
  · exact (Below.refl _ _).drew.alloc (Nat.le_refl _) _

def dg2 (a b : UInt8) : Int := (dig a) * 10 + dig b
set_option maxHeartbeats 1000000 in
theorem num_2 (a b : UInt8) (w : World) (ha : isDig a = true) (hb : isDig b = true) :
    Calls Tryd.prog 59 #[.string ⟨#[a, b]⟩] w fun e w' => e = .returned (.int .i64 (dg2 a b)) ∧ Below w.heap.size w w' := by
  obtain ⟨W, cap, kc, hcl, hbl⟩ := bytes_laid ⟨#[a, b]⟩ w
  have c0 : W.cell? ⟨w.heap.size, 0, none⟩ = some (.int .u8 (a.toNat : Int)) := hcl 0 (by simp)
  have c1 : W.cell? ⟨w.heap.size, 1, none⟩ = some (.int .u8 (b.toNat : Int)) := hcl 1 (by simp)
  obtain ⟨a0, a1⟩ := isDig_of ha
  obtain ⟨b0, b1⟩ := isDig_of hb
  unfold dg2 dig
  generalize (a.toNat : Int) = A at *
  generalize (b.toNat : Int) = B at *
  have kd : (convert 9 42 (.string ⟨#[a, b]⟩)).run Tryd.prog w = .ok (.slice (some ⟨w.heap.size, 0, none⟩) 2 cap) W := kc
  clear hcl kc
  go_enter Tryd.func59, Tryd.ntmps59
  go_wp2_with fail
  go_rounds 3
  go_ret
  refine ⟨?_, hbl⟩
  first | rfl | (congr 2; go_arith)

def dg4 (a b c d : UInt8) : Int := (((dig a) * 10 + dig b) * 10 + dig c) * 10 + dig d
set_option maxHeartbeats 1000000 in
theorem num_4 (a b c d : UInt8) (w : World) (ha : isDig a = true) (hb : isDig b = true) (hc : isDig c = true) (hd : isDig d = true) :
    Calls Tryd.prog 59 #[.string ⟨#[a, b, c, d]⟩] w fun e w' => e = .returned (.int .i64 (dg4 a b c d)) ∧ Below w.heap.size w w' := by
  obtain ⟨W, cap, kc, hcl, hbl⟩ := bytes_laid ⟨#[a, b, c, d]⟩ w
  have c0 : W.cell? ⟨w.heap.size, 0, none⟩ = some (.int .u8 (a.toNat : Int)) := hcl 0 (by simp)
  have c1 : W.cell? ⟨w.heap.size, 1, none⟩ = some (.int .u8 (b.toNat : Int)) := hcl 1 (by simp)
  have c2 : W.cell? ⟨w.heap.size, 2, none⟩ = some (.int .u8 (c.toNat : Int)) := hcl 2 (by simp)
  have c3 : W.cell? ⟨w.heap.size, 3, none⟩ = some (.int .u8 (d.toNat : Int)) := hcl 3 (by simp)
  obtain ⟨a0, a1⟩ := isDig_of ha
  obtain ⟨b0, b1⟩ := isDig_of hb
  obtain ⟨c0, c1⟩ := isDig_of hc
  obtain ⟨d0, d1⟩ := isDig_of hd
  unfold dg4 dig
  generalize (a.toNat : Int) = A at *
  generalize (b.toNat : Int) = B at *
  generalize (c.toNat : Int) = C at *
  generalize (d.toNat : Int) = D at *
  have kd : (convert 9 42 (.string ⟨#[a, b, c, d]⟩)).run Tryd.prog w = .ok (.slice (some ⟨w.heap.size, 0, none⟩) 4 cap) W := kc
  clear hcl kc
  go_enter Tryd.func59, Tryd.ntmps59
  go_wp2_with fail
  go_rounds 5
  go_ret
  refine ⟨?_, hbl⟩
  first | rfl | (congr 2; go_arith)

def fitB (c0 c1 c2 c3 c4 c5 c6 c7 c8 c9 : UInt8) : Bool := isDig c0 && isDig c1 && isDig c2 && isDig c3 && decide ((c4.toNat : Int) = 45) && isDig c5 && isDig c6 && decide ((c7.toNat : Int) = 45) && isDig c8 && isDig c9

set_option maxHeartbeats 1000000 in
theorem fits_other (s : ByteArray) (w : World) (h : s.size ≠ 10) (hs : s.size < 9223372036854775808) :
    Calls Tryd.prog 57 #[.string s] w fun e w' => e = .returned (.bool false) ∧ w = w' := by
  have h' : ((s.size : Int) != 10) = true := by rw [bne_iff_ne]; omega
  go_enter Tryd.func57, Tryd.ntmps57
  go_wp2
  go_ret
  exact ⟨rfl, rfl⟩

theorem isDig_no {c : UInt8} (h : isDig c = false) : (c.toNat : Int) < 48 ∨ (48 ≤ (c.toNat : Int) ∧ 57 < (c.toNat : Int)) := by
  unfold isDig at h
  simp only [Bool.and_eq_false_iff, decide_eq_false_iff_not] at h
  omega

set_option maxHeartbeats 4000000 in
theorem fits_10 (c0 c1 c2 c3 c4 c5 c6 c7 c8 c9 : UInt8) (w : World) :
    Calls Tryd.prog 57 #[.string ⟨#[c0, c1, c2, c3, c4, c5, c6, c7, c8, c9]⟩] w fun e w' => e = .returned (.bool (fitB c0 c1 c2 c3 c4 c5 c6 c7 c8 c9)) ∧ ∃ x, w' = w.drewN x := by
  have FB : Hid (fitB c0 c1 c2 c3 c4 c5 c6 c7 c8 c9 = (isDig c0 && isDig c1 && isDig c2 && isDig c3 && decide ((c4.toNat : Int) = 45) && isDig c5 && isDig c6 && decide ((c7.toNat : Int) = 45) && isDig c8 && isDig c9)) := (rfl : _ = _)
  go_enter Tryd.func57, Tryd.ntmps57
  go_wp2_with fail
  go_loopg [9] 10 (fun g iv wr => ∃ j : Nat, j ≤ 10 ∧ g = 10 - j ∧ iv = .int .i64 j ∧ (∃ x, wr = w.drewN x) ∧ Hid ((0 < j → isDig c0 = true) ∧ (1 < j → isDig c1 = true) ∧ (2 < j → isDig c2 = true) ∧ (3 < j → isDig c3 = true) ∧ (4 < j → decide ((c4.toNat : Int) = 45) = true) ∧ (5 < j → isDig c5 = true) ∧ (6 < j → isDig c6 = true) ∧ (7 < j → decide ((c7.toNat : Int) = 45) = true) ∧ (8 < j → isDig c8 = true) ∧ (9 < j → isDig c9 = true)))
  case atStart => exact ⟨0, by omega, rfl, rfl, ⟨0, rfl⟩, fun h => by omega, fun h => by omega, fun h => by omega, fun h => by omega, fun h => by omega, fun h => by omega, fun h => by omega, fun h => by omega, fun h => by omega, fun h => by omega⟩
  case round =>
    obtain ⟨j, hj, rfl, rfl, ⟨x, rfl⟩, P⟩ := hrel
    have J : j = 0 ∨ j = 1 ∨ j = 2 ∨ j = 3 ∨ j = 4 ∨ j = 5 ∨ j = 6 ∨ j = 7 ∨ j = 8 ∨ j = 9 ∨ j = 10 := by omega
    rcases J with rfl | rfl | rfl | rfl | rfl | rfl | rfl | rfl | rfl | rfl | rfl
    · cases k : isDig c0
      · have E : Hid (fitB c0 c1 c2 c3 c4 c5 c6 c7 c8 c9 = false) := (by rw [FB.out, k]; simp : fitB c0 c1 c2 c3 c4 c5 c6 c7 c8 c9 = false)
        have k' := isDig_no k
        clear k
        have xi : ((((⟨#[c0, c1, c2, c3, c4, c5, c6, c7, c8, c9]⟩ : ByteArray)[0]'(by show 0 < 10; omega)).toNat : Nat) : Int) = (c0.toNat : Int) := rfl
        generalize (c0.toNat : Int) = C at *
        rcases k' with k' | ⟨k', k''⟩
        · go_wp2
          go_ret
          exact ⟨by rw [E.out]; rfl, _, rfl⟩
        · go_wp2
          go_ret
          exact ⟨by rw [E.out]; rfl, _, rfl⟩
      · have k' := isDig_of k
        have NX : Hid ((0 < 1 → isDig c0 = true) ∧ (1 < 1 → isDig c1 = true) ∧ (2 < 1 → isDig c2 = true) ∧ (3 < 1 → isDig c3 = true) ∧ (4 < 1 → decide ((c4.toNat : Int) = 45) = true) ∧ (5 < 1 → isDig c5 = true) ∧ (6 < 1 → isDig c6 = true) ∧ (7 < 1 → decide ((c7.toNat : Int) = 45) = true) ∧ (8 < 1 → isDig c8 = true) ∧ (9 < 1 → isDig c9 = true)) := (by
          obtain ⟨p0, p1, p2, p3, p4, p5, p6, p7, p8, p9⟩ := P.out
          exact ⟨fun _ => k, fun h => by omega, fun h => by omega, fun h => by omega, fun h => by omega, fun h => by omega, fun h => by omega, fun h => by omega, fun h => by omega, fun h => by omega⟩)
        clear k
        obtain ⟨k0, k1⟩ := k'
        have xi : ((((⟨#[c0, c1, c2, c3, c4, c5, c6, c7, c8, c9]⟩ : ByteArray)[0]'(by show 0 < 10; omega)).toNat : Nat) : Int) = (c0.toNat : Int) := rfl
        generalize (c0.toNat : Int) = C at *
        go_wp2
        go_roundg 9
        case measure => omega
        case rel => exact ⟨1, by omega, rfl, rfl, ⟨_, rfl⟩, NX⟩
    · cases k : isDig c1
      · have E : Hid (fitB c0 c1 c2 c3 c4 c5 c6 c7 c8 c9 = false) := (by rw [FB.out, k]; simp : fitB c0 c1 c2 c3 c4 c5 c6 c7 c8 c9 = false)
        have k' := isDig_no k
        clear k
        have xi : ((((⟨#[c0, c1, c2, c3, c4, c5, c6, c7, c8, c9]⟩ : ByteArray)[1]'(by show 1 < 10; omega)).toNat : Nat) : Int) = (c1.toNat : Int) := rfl
        generalize (c1.toNat : Int) = C at *
        rcases k' with k' | ⟨k', k''⟩
        · go_wp2
          go_ret
          exact ⟨by rw [E.out]; rfl, _, rfl⟩
        · go_wp2
          go_ret
          exact ⟨by rw [E.out]; rfl, _, rfl⟩
      · have k' := isDig_of k
        have NX : Hid ((0 < 2 → isDig c0 = true) ∧ (1 < 2 → isDig c1 = true) ∧ (2 < 2 → isDig c2 = true) ∧ (3 < 2 → isDig c3 = true) ∧ (4 < 2 → decide ((c4.toNat : Int) = 45) = true) ∧ (5 < 2 → isDig c5 = true) ∧ (6 < 2 → isDig c6 = true) ∧ (7 < 2 → decide ((c7.toNat : Int) = 45) = true) ∧ (8 < 2 → isDig c8 = true) ∧ (9 < 2 → isDig c9 = true)) := (by
          obtain ⟨p0, p1, p2, p3, p4, p5, p6, p7, p8, p9⟩ := P.out
          exact ⟨fun _ => p0 (by omega), fun _ => k, fun h => by omega, fun h => by omega, fun h => by omega, fun h => by omega, fun h => by omega, fun h => by omega, fun h => by omega, fun h => by omega⟩)
        clear k
        obtain ⟨k0, k1⟩ := k'
        have xi : ((((⟨#[c0, c1, c2, c3, c4, c5, c6, c7, c8, c9]⟩ : ByteArray)[1]'(by show 1 < 10; omega)).toNat : Nat) : Int) = (c1.toNat : Int) := rfl
        generalize (c1.toNat : Int) = C at *
        go_wp2
        go_roundg 8
        case measure => omega
        case rel => exact ⟨2, by omega, rfl, rfl, ⟨_, rfl⟩, NX⟩
    · cases k : isDig c2
      · have E : Hid (fitB c0 c1 c2 c3 c4 c5 c6 c7 c8 c9 = false) := (by rw [FB.out, k]; simp : fitB c0 c1 c2 c3 c4 c5 c6 c7 c8 c9 = false)
        have k' := isDig_no k
        clear k
        have xi : ((((⟨#[c0, c1, c2, c3, c4, c5, c6, c7, c8, c9]⟩ : ByteArray)[2]'(by show 2 < 10; omega)).toNat : Nat) : Int) = (c2.toNat : Int) := rfl
        generalize (c2.toNat : Int) = C at *
        rcases k' with k' | ⟨k', k''⟩
        · go_wp2
          go_ret
          exact ⟨by rw [E.out]; rfl, _, rfl⟩
        · go_wp2
          go_ret
          exact ⟨by rw [E.out]; rfl, _, rfl⟩
      · have k' := isDig_of k
        have NX : Hid ((0 < 3 → isDig c0 = true) ∧ (1 < 3 → isDig c1 = true) ∧ (2 < 3 → isDig c2 = true) ∧ (3 < 3 → isDig c3 = true) ∧ (4 < 3 → decide ((c4.toNat : Int) = 45) = true) ∧ (5 < 3 → isDig c5 = true) ∧ (6 < 3 → isDig c6 = true) ∧ (7 < 3 → decide ((c7.toNat : Int) = 45) = true) ∧ (8 < 3 → isDig c8 = true) ∧ (9 < 3 → isDig c9 = true)) := (by
          obtain ⟨p0, p1, p2, p3, p4, p5, p6, p7, p8, p9⟩ := P.out
          exact ⟨fun _ => p0 (by omega), fun _ => p1 (by omega), fun _ => k, fun h => by omega, fun h => by omega, fun h => by omega, fun h => by omega, fun h => by omega, fun h => by omega, fun h => by omega⟩)
        clear k
        obtain ⟨k0, k1⟩ := k'
        have xi : ((((⟨#[c0, c1, c2, c3, c4, c5, c6, c7, c8, c9]⟩ : ByteArray)[2]'(by show 2 < 10; omega)).toNat : Nat) : Int) = (c2.toNat : Int) := rfl
        generalize (c2.toNat : Int) = C at *
        go_wp2
        go_roundg 7
        case measure => omega
        case rel => exact ⟨3, by omega, rfl, rfl, ⟨_, rfl⟩, NX⟩
    · cases k : isDig c3
      · have E : Hid (fitB c0 c1 c2 c3 c4 c5 c6 c7 c8 c9 = false) := (by rw [FB.out, k]; simp : fitB c0 c1 c2 c3 c4 c5 c6 c7 c8 c9 = false)
        have k' := isDig_no k
        clear k
        have xi : ((((⟨#[c0, c1, c2, c3, c4, c5, c6, c7, c8, c9]⟩ : ByteArray)[3]'(by show 3 < 10; omega)).toNat : Nat) : Int) = (c3.toNat : Int) := rfl
        generalize (c3.toNat : Int) = C at *
        rcases k' with k' | ⟨k', k''⟩
        · go_wp2
          go_ret
          exact ⟨by rw [E.out]; rfl, _, rfl⟩
        · go_wp2
          go_ret
          exact ⟨by rw [E.out]; rfl, _, rfl⟩
      · have k' := isDig_of k
        have NX : Hid ((0 < 4 → isDig c0 = true) ∧ (1 < 4 → isDig c1 = true) ∧ (2 < 4 → isDig c2 = true) ∧ (3 < 4 → isDig c3 = true) ∧ (4 < 4 → decide ((c4.toNat : Int) = 45) = true) ∧ (5 < 4 → isDig c5 = true) ∧ (6 < 4 → isDig c6 = true) ∧ (7 < 4 → decide ((c7.toNat : Int) = 45) = true) ∧ (8 < 4 → isDig c8 = true) ∧ (9 < 4 → isDig c9 = true)) := (by
          obtain ⟨p0, p1, p2, p3, p4, p5, p6, p7, p8, p9⟩ := P.out
          exact ⟨fun _ => p0 (by omega), fun _ => p1 (by omega), fun _ => p2 (by omega), fun _ => k, fun h => by omega, fun h => by omega, fun h => by omega, fun h => by omega, fun h => by omega, fun h => by omega⟩)
        clear k
        obtain ⟨k0, k1⟩ := k'
        have xi : ((((⟨#[c0, c1, c2, c3, c4, c5, c6, c7, c8, c9]⟩ : ByteArray)[3]'(by show 3 < 10; omega)).toNat : Nat) : Int) = (c3.toNat : Int) := rfl
        generalize (c3.toNat : Int) = C at *
        go_wp2
        go_roundg 6
        case measure => omega
        case rel => exact ⟨4, by omega, rfl, rfl, ⟨_, rfl⟩, NX⟩
    · cases k : decide ((c4.toNat : Int) = 45)
      · have E : Hid (fitB c0 c1 c2 c3 c4 c5 c6 c7 c8 c9 = false) := (by rw [FB.out, k]; simp : fitB c0 c1 c2 c3 c4 c5 c6 c7 c8 c9 = false)
        have k' : ((c4.toNat : Int) != 45) = true := by rw [bne_iff_ne]; simpa using k
        clear k
        have xp : ((((⟨#[48, 48, 48, 48, 45, 48, 48, 45, 48, 48]⟩ : ByteArray)[4]'(by show 4 < 10; omega)).toNat : Nat) : Int) = 45 := rfl
        have xi : ((((⟨#[c0, c1, c2, c3, c4, c5, c6, c7, c8, c9]⟩ : ByteArray)[4]'(by show 4 < 10; omega)).toNat : Nat) : Int) = (c4.toNat : Int) := rfl
        generalize (c4.toNat : Int) = C at *
        go_wp2
        go_quiet (fail)
        go_wp2
        go_ret
        exact ⟨by rw [E.out]; rfl, _, by first | rfl | rw [World.drewN_drewN]⟩
      · have k' : (c4.toNat : Int) = 45 := by simpa using k
        have NX : Hid ((0 < 5 → isDig c0 = true) ∧ (1 < 5 → isDig c1 = true) ∧ (2 < 5 → isDig c2 = true) ∧ (3 < 5 → isDig c3 = true) ∧ (4 < 5 → decide ((c4.toNat : Int) = 45) = true) ∧ (5 < 5 → isDig c5 = true) ∧ (6 < 5 → isDig c6 = true) ∧ (7 < 5 → decide ((c7.toNat : Int) = 45) = true) ∧ (8 < 5 → isDig c8 = true) ∧ (9 < 5 → isDig c9 = true)) := (by
          obtain ⟨p0, p1, p2, p3, p4, p5, p6, p7, p8, p9⟩ := P.out
          exact ⟨fun _ => p0 (by omega), fun _ => p1 (by omega), fun _ => p2 (by omega), fun _ => p3 (by omega), fun _ => k, fun h => by omega, fun h => by omega, fun h => by omega, fun h => by omega, fun h => by omega⟩)
        clear k
        have xp : ((((⟨#[48, 48, 48, 48, 45, 48, 48, 45, 48, 48]⟩ : ByteArray)[4]'(by show 4 < 10; omega)).toNat : Nat) : Int) = 45 := rfl
        have xi : ((((⟨#[c0, c1, c2, c3, c4, c5, c6, c7, c8, c9]⟩ : ByteArray)[4]'(by show 4 < 10; omega)).toNat : Nat) : Int) = (c4.toNat : Int) := rfl
        generalize (c4.toNat : Int) = C at *
        subst k'
        go_wp2
        go_quiet (fail)
        go_wp2
        go_roundg 5
        case measure => omega
        case rel => exact ⟨5, by omega, rfl, rfl, ⟨_, by first | rfl | rw [World.drewN_drewN]⟩, NX⟩
    · cases k : isDig c5
      · have E : Hid (fitB c0 c1 c2 c3 c4 c5 c6 c7 c8 c9 = false) := (by rw [FB.out, k]; simp : fitB c0 c1 c2 c3 c4 c5 c6 c7 c8 c9 = false)
        have k' := isDig_no k
        clear k
        have xi : ((((⟨#[c0, c1, c2, c3, c4, c5, c6, c7, c8, c9]⟩ : ByteArray)[5]'(by show 5 < 10; omega)).toNat : Nat) : Int) = (c5.toNat : Int) := rfl
        generalize (c5.toNat : Int) = C at *
        rcases k' with k' | ⟨k', k''⟩
        · go_wp2
          go_ret
          exact ⟨by rw [E.out]; rfl, _, rfl⟩
        · go_wp2
          go_ret
          exact ⟨by rw [E.out]; rfl, _, rfl⟩
      · have k' := isDig_of k
        have NX : Hid ((0 < 6 → isDig c0 = true) ∧ (1 < 6 → isDig c1 = true) ∧ (2 < 6 → isDig c2 = true) ∧ (3 < 6 → isDig c3 = true) ∧ (4 < 6 → decide ((c4.toNat : Int) = 45) = true) ∧ (5 < 6 → isDig c5 = true) ∧ (6 < 6 → isDig c6 = true) ∧ (7 < 6 → decide ((c7.toNat : Int) = 45) = true) ∧ (8 < 6 → isDig c8 = true) ∧ (9 < 6 → isDig c9 = true)) := (by
          obtain ⟨p0, p1, p2, p3, p4, p5, p6, p7, p8, p9⟩ := P.out
          exact ⟨fun _ => p0 (by omega), fun _ => p1 (by omega), fun _ => p2 (by omega), fun _ => p3 (by omega), fun _ => p4 (by omega), fun _ => k, fun h => by omega, fun h => by omega, fun h => by omega, fun h => by omega⟩)
        clear k
        obtain ⟨k0, k1⟩ := k'
        have xi : ((((⟨#[c0, c1, c2, c3, c4, c5, c6, c7, c8, c9]⟩ : ByteArray)[5]'(by show 5 < 10; omega)).toNat : Nat) : Int) = (c5.toNat : Int) := rfl
        generalize (c5.toNat : Int) = C at *
        go_wp2
        go_roundg 4
        case measure => omega
        case rel => exact ⟨6, by omega, rfl, rfl, ⟨_, rfl⟩, NX⟩
    · cases k : isDig c6
      · have E : Hid (fitB c0 c1 c2 c3 c4 c5 c6 c7 c8 c9 = false) := (by rw [FB.out, k]; simp : fitB c0 c1 c2 c3 c4 c5 c6 c7 c8 c9 = false)
        have k' := isDig_no k
        clear k
        have xi : ((((⟨#[c0, c1, c2, c3, c4, c5, c6, c7, c8, c9]⟩ : ByteArray)[6]'(by show 6 < 10; omega)).toNat : Nat) : Int) = (c6.toNat : Int) := rfl
        generalize (c6.toNat : Int) = C at *
        rcases k' with k' | ⟨k', k''⟩
        · go_wp2
          go_ret
          exact ⟨by rw [E.out]; rfl, _, rfl⟩
        · go_wp2
          go_ret
          exact ⟨by rw [E.out]; rfl, _, rfl⟩
      · have k' := isDig_of k
        have NX : Hid ((0 < 7 → isDig c0 = true) ∧ (1 < 7 → isDig c1 = true) ∧ (2 < 7 → isDig c2 = true) ∧ (3 < 7 → isDig c3 = true) ∧ (4 < 7 → decide ((c4.toNat : Int) = 45) = true) ∧ (5 < 7 → isDig c5 = true) ∧ (6 < 7 → isDig c6 = true) ∧ (7 < 7 → decide ((c7.toNat : Int) = 45) = true) ∧ (8 < 7 → isDig c8 = true) ∧ (9 < 7 → isDig c9 = true)) := (by
          obtain ⟨p0, p1, p2, p3, p4, p5, p6, p7, p8, p9⟩ := P.out
          exact ⟨fun _ => p0 (by omega), fun _ => p1 (by omega), fun _ => p2 (by omega), fun _ => p3 (by omega), fun _ => p4 (by omega), fun _ => p5 (by omega), fun _ => k, fun h => by omega, fun h => by omega, fun h => by omega⟩)
        clear k
        obtain ⟨k0, k1⟩ := k'
        have xi : ((((⟨#[c0, c1, c2, c3, c4, c5, c6, c7, c8, c9]⟩ : ByteArray)[6]'(by show 6 < 10; omega)).toNat : Nat) : Int) = (c6.toNat : Int) := rfl
        generalize (c6.toNat : Int) = C at *
        go_wp2
        go_roundg 3
        case measure => omega
        case rel => exact ⟨7, by omega, rfl, rfl, ⟨_, rfl⟩, NX⟩
    · cases k : decide ((c7.toNat : Int) = 45)
      · have E : Hid (fitB c0 c1 c2 c3 c4 c5 c6 c7 c8 c9 = false) := (by rw [FB.out, k]; simp : fitB c0 c1 c2 c3 c4 c5 c6 c7 c8 c9 = false)
        have k' : ((c7.toNat : Int) != 45) = true := by rw [bne_iff_ne]; simpa using k
        clear k
        have xp : ((((⟨#[48, 48, 48, 48, 45, 48, 48, 45, 48, 48]⟩ : ByteArray)[7]'(by show 7 < 10; omega)).toNat : Nat) : Int) = 45 := rfl
        have xi : ((((⟨#[c0, c1, c2, c3, c4, c5, c6, c7, c8, c9]⟩ : ByteArray)[7]'(by show 7 < 10; omega)).toNat : Nat) : Int) = (c7.toNat : Int) := rfl
        generalize (c7.toNat : Int) = C at *
        go_wp2
        go_quiet (fail)
        go_wp2
        go_ret
        exact ⟨by rw [E.out]; rfl, _, by first | rfl | rw [World.drewN_drewN]⟩
      · have k' : (c7.toNat : Int) = 45 := by simpa using k
        have NX : Hid ((0 < 8 → isDig c0 = true) ∧ (1 < 8 → isDig c1 = true) ∧ (2 < 8 → isDig c2 = true) ∧ (3 < 8 → isDig c3 = true) ∧ (4 < 8 → decide ((c4.toNat : Int) = 45) = true) ∧ (5 < 8 → isDig c5 = true) ∧ (6 < 8 → isDig c6 = true) ∧ (7 < 8 → decide ((c7.toNat : Int) = 45) = true) ∧ (8 < 8 → isDig c8 = true) ∧ (9 < 8 → isDig c9 = true)) := (by
          obtain ⟨p0, p1, p2, p3, p4, p5, p6, p7, p8, p9⟩ := P.out
          exact ⟨fun _ => p0 (by omega), fun _ => p1 (by omega), fun _ => p2 (by omega), fun _ => p3 (by omega), fun _ => p4 (by omega), fun _ => p5 (by omega), fun _ => p6 (by omega), fun _ => k, fun h => by omega, fun h => by omega⟩)
        clear k
        have xp : ((((⟨#[48, 48, 48, 48, 45, 48, 48, 45, 48, 48]⟩ : ByteArray)[7]'(by show 7 < 10; omega)).toNat : Nat) : Int) = 45 := rfl
        have xi : ((((⟨#[c0, c1, c2, c3, c4, c5, c6, c7, c8, c9]⟩ : ByteArray)[7]'(by show 7 < 10; omega)).toNat : Nat) : Int) = (c7.toNat : Int) := rfl
        generalize (c7.toNat : Int) = C at *
        subst k'
        go_wp2
        go_quiet (fail)
        go_wp2
        go_roundg 2
        case measure => omega
        case rel => exact ⟨8, by omega, rfl, rfl, ⟨_, by first | rfl | rw [World.drewN_drewN]⟩, NX⟩
    · cases k : isDig c8
      · have E : Hid (fitB c0 c1 c2 c3 c4 c5 c6 c7 c8 c9 = false) := (by rw [FB.out, k]; simp : fitB c0 c1 c2 c3 c4 c5 c6 c7 c8 c9 = false)
        have k' := isDig_no k
        clear k
        have xi : ((((⟨#[c0, c1, c2, c3, c4, c5, c6, c7, c8, c9]⟩ : ByteArray)[8]'(by show 8 < 10; omega)).toNat : Nat) : Int) = (c8.toNat : Int) := rfl
        generalize (c8.toNat : Int) = C at *
        rcases k' with k' | ⟨k', k''⟩
        · go_wp2
          go_ret
          exact ⟨by rw [E.out]; rfl, _, rfl⟩
        · go_wp2
          go_ret
          exact ⟨by rw [E.out]; rfl, _, rfl⟩
      · have k' := isDig_of k
        have NX : Hid ((0 < 9 → isDig c0 = true) ∧ (1 < 9 → isDig c1 = true) ∧ (2 < 9 → isDig c2 = true) ∧ (3 < 9 → isDig c3 = true) ∧ (4 < 9 → decide ((c4.toNat : Int) = 45) = true) ∧ (5 < 9 → isDig c5 = true) ∧ (6 < 9 → isDig c6 = true) ∧ (7 < 9 → decide ((c7.toNat : Int) = 45) = true) ∧ (8 < 9 → isDig c8 = true) ∧ (9 < 9 → isDig c9 = true)) := (by
          obtain ⟨p0, p1, p2, p3, p4, p5, p6, p7, p8, p9⟩ := P.out
          exact ⟨fun _ => p0 (by omega), fun _ => p1 (by omega), fun _ => p2 (by omega), fun _ => p3 (by omega), fun _ => p4 (by omega), fun _ => p5 (by omega), fun _ => p6 (by omega), fun _ => p7 (by omega), fun _ => k, fun h => by omega⟩)
        clear k
        obtain ⟨k0, k1⟩ := k'
        have xi : ((((⟨#[c0, c1, c2, c3, c4, c5, c6, c7, c8, c9]⟩ : ByteArray)[8]'(by show 8 < 10; omega)).toNat : Nat) : Int) = (c8.toNat : Int) := rfl
        generalize (c8.toNat : Int) = C at *
        go_wp2
        go_roundg 1
        case measure => omega
        case rel => exact ⟨9, by omega, rfl, rfl, ⟨_, rfl⟩, NX⟩
    · cases k : isDig c9
      · have E : Hid (fitB c0 c1 c2 c3 c4 c5 c6 c7 c8 c9 = false) := (by rw [FB.out, k]; simp : fitB c0 c1 c2 c3 c4 c5 c6 c7 c8 c9 = false)
        have k' := isDig_no k
        clear k
        have xi : ((((⟨#[c0, c1, c2, c3, c4, c5, c6, c7, c8, c9]⟩ : ByteArray)[9]'(by show 9 < 10; omega)).toNat : Nat) : Int) = (c9.toNat : Int) := rfl
        generalize (c9.toNat : Int) = C at *
        rcases k' with k' | ⟨k', k''⟩
        · go_wp2
          go_ret
          exact ⟨by rw [E.out]; rfl, _, rfl⟩
        · go_wp2
          go_ret
          exact ⟨by rw [E.out]; rfl, _, rfl⟩
      · have k' := isDig_of k
        have NX : Hid ((0 < 10 → isDig c0 = true) ∧ (1 < 10 → isDig c1 = true) ∧ (2 < 10 → isDig c2 = true) ∧ (3 < 10 → isDig c3 = true) ∧ (4 < 10 → decide ((c4.toNat : Int) = 45) = true) ∧ (5 < 10 → isDig c5 = true) ∧ (6 < 10 → isDig c6 = true) ∧ (7 < 10 → decide ((c7.toNat : Int) = 45) = true) ∧ (8 < 10 → isDig c8 = true) ∧ (9 < 10 → isDig c9 = true)) := (by
          obtain ⟨p0, p1, p2, p3, p4, p5, p6, p7, p8, p9⟩ := P.out
          exact ⟨fun _ => p0 (by omega), fun _ => p1 (by omega), fun _ => p2 (by omega), fun _ => p3 (by omega), fun _ => p4 (by omega), fun _ => p5 (by omega), fun _ => p6 (by omega), fun _ => p7 (by omega), fun _ => p8 (by omega), fun _ => k⟩)
        clear k
        obtain ⟨k0, k1⟩ := k'
        have xi : ((((⟨#[c0, c1, c2, c3, c4, c5, c6, c7, c8, c9]⟩ : ByteArray)[9]'(by show 9 < 10; omega)).toNat : Nat) : Int) = (c9.toNat : Int) := rfl
        generalize (c9.toNat : Int) = C at *
        go_wp2
        go_roundg 0
        case measure => omega
        case rel => exact ⟨10, by omega, rfl, rfl, ⟨_, rfl⟩, NX⟩
    · have E : Hid (fitB c0 c1 c2 c3 c4 c5 c6 c7 c8 c9 = true) := (by
        obtain ⟨p0, p1, p2, p3, p4, p5, p6, p7, p8, p9⟩ := P.out
        rw [FB.out, p0 (by omega), p1 (by omega), p2 (by omega), p3 (by omega), p4 (by omega), p5 (by omega), p6 (by omega), p7 (by omega), p8 (by omega), p9 (by omega)]; rfl)
      go_wp2
      go_ret
      exact ⟨by rw [E.out]; rfl, _, rfl⟩

end Go.Proofs.YtobolipjgkabhaaDoor
