/- The walks over package publicanref9, on: sign. -/
import Derived.Test.YtiikdmnmfmfpdaaGreatDoorY2
import Derived.BigQuiet
namespace Go.Proofs.YtiikdmnmfmfpdaaGreatDoor
open Go.RowKit
set_option linter.unusedVariables false
set_option linter.unusedSimpArgs false

def oneS : ByteArray := ⟨#[40, 41, 123, 125, 91, 93, 44, 59, 58, 61, 43, 45, 42, 47, 60, 62]⟩
theorem one_at : ∀ i, i < 16 → sg (i + 4) = [bt oneS i] ∧ bt oneS i ≠ 0 := by
  have : ∀ i : Fin 16, sg (i.val + 4) = [bt oneS i.val] ∧ bt oneS i.val ≠ 0 := by decide
  exact fun i hi => this ⟨i, hi⟩
theorem one_hp {s : ByteArray} (h : 0 < s.size) {i : Nat} (hi : i < 16) : hpB (tl s 0) (sg (i + 4)) = (((bt s 0).toNat : Int) == ((bt oneS i).toNat : Int)) := by
  obtain ⟨e1, e2⟩ := one_at i hi
  rw [e1, hp_1 _ _ e2, tl_cons h]
  show decide ((bt s 0).toNat = (bt oneS i).toNat) = _
  rw [Bool.eq_iff_iff]
  simp
  omega
theorem two_hp {s : ByteArray} (h : 2 ≤ s.size) {i : Nat} (hi : i < 4) : ((s.extract 0 2).toList == (tx (sg i)).toList) = hpB (tl s 0) (sg i) := by
  have e : (sg i).length = 2 := by
    have : ∀ i : Fin 4, (sg i.val).length = 2 := by decide
    exact this ⟨i, hi⟩
  unfold hpB
  rw [tx_list, ByteArray.toList_eq, ext_data, e]
  rfl
theorem two_no {s : ByteArray} (h : ¬ 2 ≤ s.size) {i : Nat} (hi : i < 4) : hpB (tl s 0) (sg i) = false := by
  have e : (sg i).length = 2 := by
    have : ∀ i : Fin 4, (sg i.val).length = 2 := by decide
    exact this ⟨i, hi⟩
  unfold hpB
  rw [beq_eq_false_iff_ne]
  intro x
  have := congrArg List.length x
  rw [List.length_take, tl_len] at this
  omega
def sgT (s : ByteArray) : ByteArray := tx ((tl s 0).take (sgnN (tl s 0)))
theorem sgT_at {s : ByteArray} {k : Nat} (hk : k < 20) (hn : ∀ j, j < k → hpB (tl s 0) (sg j) = false) (hy : hpB (tl s 0) (sg k) = true) : sgT s = tx (sg k) := by
  unfold sgT
  rw [sg_at hk hn hy]
  exact congrArg tx (beq_iff_eq.1 hy)
theorem sgT_no {s : ByteArray} (hn : ∀ j, j < 20 → hpB (tl s 0) (sg j) = false) : sgT s = ⟨#[]⟩ := by
  unfold sgT
  rw [sg_none hn]
  rfl
theorem twoA (w : World) : ∀ i, i < 4 → (w.alloc (.cells #[.string ⟨#[60, 61]⟩, .string ⟨#[62, 61]⟩, .string ⟨#[61, 61]⟩, .string ⟨#[33, 61]⟩] 9)).cell? ⟨w.heap.size, i, none⟩ = some (.string (tx (sg i))) := fun i hi => by
  rw [cell_of_row _ _ _ _ _ _ (heap_alloc_new w _)]
  match i, hi with
  | 0, _ => rfl
  | 1, _ => rfl
  | 2, _ => rfl
  | 3, _ => rfl
  | i + 4, hi => omega

set_option maxRecDepth 100000 in
set_option maxHeartbeats 4000000 in
theorem ysign_any (s : ByteArray) (w : World) (h0 : 0 < s.size) (hs : s.size < 9000000000000000000) :
    Calls Tryz.prog 37 #[.string s] w fun e w' => e = .returned (.string (sgT s)) ∧ Below w.heap.size w w' := by
  have SA := hid fun k hk hn hy => sgT_at (s := s) (k := k) hk hn hy
  have SN := hid fun hn => sgT_no (s := s) hn
  generalize hTT : sgT s = TT at *
  clear hTT
  go_enter Tryz.func37, Tryz.ntmps37
  go_upto_region 2 with fail
  have NB : Hid (Below w.heap.size w (w.alloc (.cells #[.string ⟨#[60, 61]⟩, .string ⟨#[62, 61]⟩, .string ⟨#[61, 61]⟩, .string ⟨#[33, 61]⟩] 9))) := (Below.refl _ _).alloc (Nat.le_refl _) _
  have NC := hid (twoA w)
  generalize (w.alloc _) = w1 at *
  go_wp2_with fail
  go_loopg [4] 5 (fun g iv wr => ∃ j : Nat, j ≤ 4 ∧ g = 5 - j ∧ iv = .int .i64 (j : Nat) ∧ Hid (Below w1.heap.size w1 wr) ∧ Hid (∀ i, i < j → hpB (tl s 0) (sg i) = false))
  case atStart => exact ⟨0, by omega, rfl, rfl, Below.refl _ _, fun i hi => by omega⟩
  case round =>
    obtain ⟨j, hj, rfl, rfl, HB, hn⟩ := hrel
    by_cases q : j < 4
    · have q' : (j : Int) < 4 := by omega
      have c1 := NC.out j q
      have cj : wr.cell? ⟨w.heap.size, j, none⟩ = some (.string (tx (sg j))) := by rw [HB.out.cell (p := ⟨w.heap.size, j, none⟩) (World.block_lt_of_cell? _ _ c1)]; exact c1
      clear c1
      cases y : hpB (tl s 0) (sg j)
      · have NN := hid (fun i hi => by rcases Nat.lt_or_ge i j with c | c
                                       · exact hn.out i c
                                       · obtain rfl : i = j := by omega
                                         exact y : ∀ i, i < j + 1 → hpB (tl s 0) (sg i) = false)
        by_cases z : 2 ≤ s.size
        · have z' : (2 : Int) ≤ (s.size : Int) := by omega
          have e := two_hp z q
          rw [y] at e
          generalize tx (sg j) = T at *
          clear y
          go_upto_region 5 with fail
          go_quiet (fail)
          have B3 := hid (nextB HB.out (below_drewN wr nq))
          generalize wr.drewN nq = w3 at *
          go_wp2_with fail
          go_roundg (5 - (j + 1))
          case measure => omega
          case rel => exact ⟨j + 1, by omega, rfl, by rw [Int.natCast_add]; rfl, B3, NN⟩
        · have z' : decide ((2 : Int) ≤ (s.size : Int)) = false := decide_eq_false (by omega)
          generalize tx (sg j) = T at *
          clear y
          go_upto_region 5 with fail
          go_quiet (fail)
          have B3 := hid (nextB HB.out (below_drewN wr nq))
          generalize wr.drewN nq = w3 at *
          go_wp2_with fail
          go_roundg (5 - (j + 1))
          case measure => omega
          case rel => exact ⟨j + 1, by omega, rfl, by rw [Int.natCast_add]; rfl, B3, NN⟩
      · have z : 2 ≤ s.size := by
          rcases Nat.lt_or_ge s.size 2 with c | c
          · rw [two_no (by omega) q] at y; cases y
          · exact c
        have z' : (2 : Int) ≤ (s.size : Int) := by omega
        have e := two_hp z q
        have FF := hid (SA.out j (by omega) hn.out y)
        rw [y] at e
        generalize tx (sg j) = T at *
        clear y
        go_upto_region 5 with fail
        go_quiet (fail)
        have B3 := hid (nextB HB.out (below_drewN wr nq))
        have cj : (wr.drewN nq).cell? ⟨w.heap.size, j, none⟩ = some (.string T) := by rw [(below_drewN wr nq).cell (p := ⟨w.heap.size, j, none⟩) (World.block_lt_of_cell? _ _ cj)]; exact cj
        generalize wr.drewN nq = w3 at *
        go_wp2_with fail
        go_ret
        exact ⟨by rw [FF.out]; rfl, nextB NB.out B3.out⟩
    · obtain rfl : j = 4 := by omega
      clear NC
      go_upto_region 9 with fail
      have hO : (⟨#[40, 41, 123, 125, 91, 93, 44, 59, 58, 61, 43, 45, 42, 47, 60, 62]⟩ : ByteArray) = oneS := rfl
      rw [hO]
      have oz : oneS.size = 16 := rfl
      have OH := hid fun i hi => one_hp (s := s) h0 (i := i) hi
      have OA := hid one_at
      have OB := hid fun i hi => bt_at (s := oneS) (k := i) hi
      clear hO
      generalize oneS = O at *
      go_loopg [6] 17 (fun g iv wz => ∃ j : Nat, j ≤ 16 ∧ g = 17 - j ∧ iv = .int .i64 (j : Nat) ∧ Hid (Below w1.heap.size w1 wz) ∧ Hid (∀ i, i < j + 4 → hpB (tl s 0) (sg i) = false))
      case atStart => exact ⟨0, by omega, rfl, rfl, HB, hn⟩
      case round =>
        clear HB hn
        obtain ⟨j, hj, rfl, rfl, HB, hn⟩ := hrel
        by_cases q : j < 16
        · have q' : (j : Int) < 16 := by omega
          have xi := congrArg (fun c : UInt8 => (c.toNat : Int)) (OB.out j (by omega))
          have x0 := congrArg (fun c : UInt8 => (c.toNat : Int)) (bt_at h0)
          have e := OH.out j q
          cases y : hpB (tl s 0) (sg (j + 4))
          · have NN := hid (fun i hi => by rcases Nat.lt_or_ge i (j + 4) with c | c
                                           · exact hn.out i c
                                           · obtain rfl : i = j + 4 := by omega
                                             exact y : ∀ i, i < j + 1 + 4 → hpB (tl s 0) (sg i) = false)
            rw [y] at e
            clear y
            replace e := e.symm
            go_upto_region 11 with fail
            go_quiet (fail)
            have B3 := hid (nextB HB.out (below_drewN wr nq))
            generalize wr.drewN nq = w3 at *
            go_wp2_with fail
            go_roundg (17 - (j + 1))
            case measure => omega
            case rel => exact ⟨j + 1, by omega, rfl, by rw [Int.natCast_add]; rfl, B3, NN⟩
          · have FF := hid (SA.out (j + 4) (by omega) hn.out y)
            have FG := hid (by
              have e1 := beq_iff_eq.1 y
              obtain ⟨o1, o2⟩ := OA.out j q
              rw [FF.out, ext_is]
              rw [o1] at e1 ⊢
              exact congrArg tx e1.symm : TT = s.extract 0 1)
            rw [y] at e
            clear y
            replace e := e.symm
            go_upto_region 11 with fail
            go_quiet (fail)
            have B3 := hid (nextB HB.out (below_drewN wr nq))
            generalize wr.drewN nq = w3 at *
            go_wp2_with fail
            go_ret
            exact ⟨by rw [FG.out]; rfl, nextB NB.out B3.out⟩
        · obtain rfl : j = 16 := by omega
          have FF := hid (SN.out hn.out)
          go_wp2_with fail
          go_ret
          exact ⟨by rw [FF.out]; rfl, nextB NB.out HB.out⟩
end Go.Proofs.YtiikdmnmfmfpdaaGreatDoor
