/- The walks over package publicanref9: letter, digit, Kept. -/
import Derived.Test.YtiikdmnmfmfpdaaGreatDoorLd
namespace Go.Proofs.YtiikdmnmfmfpdaaGreatDoor
open Go.RowKit
set_option linter.unusedVariables false
set_option linter.unusedSimpArgs false

def kwl : List (List UInt8) := [[105, 110, 112, 117, 116], [114, 117, 108, 101], [116, 97, 98, 108, 101], [98, 111, 111, 108], [99, 111, 117, 110, 116], [109, 111, 110, 101, 121], [114, 97, 116, 101], [100, 97, 116, 101], [109, 111, 110, 101, 121, 115], [105, 102], [116, 104, 101, 110], [101, 108, 115, 101], [97, 110, 100], [111, 114], [110, 111, 116], [109, 105, 110], [109, 97, 120], [115, 117, 109], [105, 110], [108, 101, 110], [97, 116], [116, 114, 117, 101], [102, 97, 108, 115, 101]]
def kwi (i : Nat) : List UInt8 := kwl.getD i []
def kwA : Array Value := #[.string ⟨#[105, 110, 112, 117, 116]⟩, .string ⟨#[114, 117, 108, 101]⟩, .string ⟨#[116, 97, 98, 108, 101]⟩, .string ⟨#[98, 111, 111, 108]⟩, .string ⟨#[99, 111, 117, 110, 116]⟩, .string ⟨#[109, 111, 110, 101, 121]⟩, .string ⟨#[114, 97, 116, 101]⟩, .string ⟨#[100, 97, 116, 101]⟩, .string ⟨#[109, 111, 110, 101, 121, 115]⟩, .string ⟨#[105, 102]⟩, .string ⟨#[116, 104, 101, 110]⟩, .string ⟨#[101, 108, 115, 101]⟩, .string ⟨#[97, 110, 100]⟩, .string ⟨#[111, 114]⟩, .string ⟨#[110, 111, 116]⟩, .string ⟨#[109, 105, 110]⟩, .string ⟨#[109, 97, 120]⟩, .string ⟨#[115, 117, 109]⟩, .string ⟨#[105, 110]⟩, .string ⟨#[108, 101, 110]⟩, .string ⟨#[97, 116]⟩, .string ⟨#[116, 114, 117, 101]⟩, .string ⟨#[102, 97, 108, 115, 101]⟩]
theorem kw_cell : ∀ i, i < 23 → kwA[i]? = some (.string (tx (kwi i))) := by
  intro i hi
  match i, hi with
  | 0, _ => rfl
  | 1, _ => rfl
  | 2, _ => rfl
  | 3, _ => rfl
  | 4, _ => rfl
  | 5, _ => rfl
  | 6, _ => rfl
  | 7, _ => rfl
  | 8, _ => rfl
  | 9, _ => rfl
  | 10, _ => rfl
  | 11, _ => rfl
  | 12, _ => rfl
  | 13, _ => rfl
  | 14, _ => rfl
  | 15, _ => rfl
  | 16, _ => rfl
  | 17, _ => rfl
  | 18, _ => rfl
  | 19, _ => rfl
  | 20, _ => rfl
  | 21, _ => rfl
  | 22, _ => rfl
  | i + 23, hi => omega
theorem kept_iff (l : List UInt8) : keptB l = true ↔ ∃ i, i < 23 ∧ kwi i = l := by
  have e : keptB l = kwl.any (l == ·) := by
    unfold keptB kwl
    simp only [List.any_cons, List.any_nil, Bool.or_false, Bool.or_assoc]
  rw [e, List.any_eq_true]
  constructor
  · rintro ⟨x, hx, hl⟩
    obtain ⟨i, hi, rfl⟩ := List.getElem_of_mem hx
    refine ⟨i, hi, ?_⟩
    unfold kwi
    rw [List.getD_eq_getElem?_getD, List.getElem?_eq_getElem hi]
    exact (beq_iff_eq.1 hl).symm
  · rintro ⟨i, hi, rfl⟩
    refine ⟨kwi i, ?_, beq_self_eq_true _⟩
    have hi' : i < kwl.length := hi
    unfold kwi
    rw [List.getD_eq_getElem?_getD, List.getElem?_eq_getElem hi']
    exact List.getElem_mem hi'
theorem tx_list (l : List UInt8) : (tx l).toList = l := by rw [ByteArray.toList_eq]; simp [tx]
theorem ydigit_any (c : Int) (w : World) : Calls Tryz.prog 32 #[.int .u8 c] w fun e w' => e = .returned (.bool (dgB c)) ∧ w = w' := by
  go_enter Tryz.func32, Tryz.ntmps32
  go_wp2_with fail
  all_goals go_ret
  all_goals refine ⟨congrArg (fun b => Ending.returned (Value.bool b)) ?_, rfl⟩
  all_goals (unfold dgB; simp_all <;> omega)
theorem yletter_any (c : Int) (w : World) : Calls Tryz.prog 31 #[.int .u8 c] w fun e w' => e = .returned (.bool (leB c)) ∧ w = w' := by
  go_enter Tryz.func31, Tryz.ntmps31
  go_wp2_with fail
  all_goals go_ret
  all_goals refine ⟨congrArg (fun b => Ending.returned (Value.bool b)) ?_, rfl⟩
  all_goals (unfold leB; simp_all <;> omega)
theorem kw_new (w : World) : ∀ i, i < 23 → (w.alloc (.cells kwA 9)).cell? ⟨w.heap.size, i, none⟩ = some (.string (tx (kwi i))) := fun i hi => by
  rw [← kw_cell i hi]
  exact cell_of_row _ _ _ _ _ _ (heap_alloc_new w _)
set_option maxHeartbeats 4000000 in
theorem ykept_any (s : ByteArray) (w : World) : Calls Tryz.prog 33 #[.string s] w fun e w' => e = .returned (.bool (keptB s.data.toList)) ∧ Below w.heap.size w w' := by
  have KI := hid <| kept_iff s.data.toList
  rw [← ByteArray.toList_eq] at *
  go_enter Tryz.func33, Tryz.ntmps33
  go_upto_region 2 with fail
  have NB : Hid (Below w.heap.size w (w.alloc (.cells #[.string ⟨#[105, 110, 112, 117, 116]⟩, .string ⟨#[114, 117, 108, 101]⟩, .string ⟨#[116, 97, 98, 108, 101]⟩, .string ⟨#[98, 111, 111, 108]⟩, .string ⟨#[99, 111, 117, 110, 116]⟩, .string ⟨#[109, 111, 110, 101, 121]⟩, .string ⟨#[114, 97, 116, 101]⟩, .string ⟨#[100, 97, 116, 101]⟩, .string ⟨#[109, 111, 110, 101, 121, 115]⟩, .string ⟨#[105, 102]⟩, .string ⟨#[116, 104, 101, 110]⟩, .string ⟨#[101, 108, 115, 101]⟩, .string ⟨#[97, 110, 100]⟩, .string ⟨#[111, 114]⟩, .string ⟨#[110, 111, 116]⟩, .string ⟨#[109, 105, 110]⟩, .string ⟨#[109, 97, 120]⟩, .string ⟨#[115, 117, 109]⟩, .string ⟨#[105, 110]⟩, .string ⟨#[108, 101, 110]⟩, .string ⟨#[97, 116]⟩, .string ⟨#[116, 114, 117, 101]⟩, .string ⟨#[102, 97, 108, 115, 101]⟩] 9))) := (Below.refl _ _).alloc (Nat.le_refl _) _
  have NC : Hid (∀ i, i < 23 → (w.alloc (.cells #[.string ⟨#[105, 110, 112, 117, 116]⟩, .string ⟨#[114, 117, 108, 101]⟩, .string ⟨#[116, 97, 98, 108, 101]⟩, .string ⟨#[98, 111, 111, 108]⟩, .string ⟨#[99, 111, 117, 110, 116]⟩, .string ⟨#[109, 111, 110, 101, 121]⟩, .string ⟨#[114, 97, 116, 101]⟩, .string ⟨#[100, 97, 116, 101]⟩, .string ⟨#[109, 111, 110, 101, 121, 115]⟩, .string ⟨#[105, 102]⟩, .string ⟨#[116, 104, 101, 110]⟩, .string ⟨#[101, 108, 115, 101]⟩, .string ⟨#[97, 110, 100]⟩, .string ⟨#[111, 114]⟩, .string ⟨#[110, 111, 116]⟩, .string ⟨#[109, 105, 110]⟩, .string ⟨#[109, 97, 120]⟩, .string ⟨#[115, 117, 109]⟩, .string ⟨#[105, 110]⟩, .string ⟨#[108, 101, 110]⟩, .string ⟨#[97, 116]⟩, .string ⟨#[116, 114, 117, 101]⟩, .string ⟨#[102, 97, 108, 115, 101]⟩] 9)).cell? ⟨w.heap.size, i, none⟩ = some (.string (tx (kwi i)))) := kw_new w
  generalize (w.alloc _) = w1 at *
  go_wp2_with fail
  go_loopg [4] 23 (fun g iv wr => ∃ j : Nat, j ≤ 23 ∧ g = 23 - j ∧ iv = .int .i64 (j : Nat) ∧ w1 = wr ∧ Hid (∀ i, i < j → kwi i ≠ s.toList))
  case atStart => exact ⟨0, by omega, rfl, rfl, rfl, fun i hi => by omega⟩
  case round =>
    obtain ⟨j, hj, rfl, rfl, rfl, hn⟩ := hrel
    by_cases q : j < 23
    · have q' : (j : Int) < 23 := by omega
      have cj := NC.out j q
      have el := tx_list (kwi j)
      by_cases y : kwi j = s.toList
      · have y' : ((tx (kwi j)).toList == s.toList) = true := by rw [el, y]; exact beq_self_eq_true _
        have E : Hid (keptB s.toList = true) := KI.out.2 ⟨j, q, y⟩
        clear el y
        generalize tx (kwi j) = T at *
        go_wp2_with fail
        go_ret
        exact ⟨by rw [E.out]; rfl, NB.out⟩
      · have y' : ((tx (kwi j)).toList == s.toList) = false := by rw [el]; exact beq_eq_false_iff_ne.2 y
        have NN := hid (fun i hi => by rcases Nat.lt_or_ge i j with c | c
                                       · exact hn.out i c
                                       · obtain rfl : i = j := by omega
                                         exact y : ∀ i, i < j + 1 → kwi i ≠ s.toList)
        clear el y
        generalize tx (kwi j) = T at *
        go_wp2_with fail
        go_roundg (23 - (j + 1))
        case measure => omega
        case rel => exact ⟨j + 1, by omega, rfl, by rw [Int.natCast_add]; rfl, rfl, NN⟩
    · obtain rfl : j = 23 := by omega
      have E : Hid (keptB s.toList = false) := by
        show _ = _
        cases h : keptB s.toList
        · rfl
        · obtain ⟨i, hi, e⟩ := KI.out.1 h
          exact absurd e (hn.out i hi)
      go_wp2_with fail
      go_ret
      exact ⟨by rw [E.out]; rfl, NB.out⟩
end Go.Proofs.YtiikdmnmfmfpdaaGreatDoor
