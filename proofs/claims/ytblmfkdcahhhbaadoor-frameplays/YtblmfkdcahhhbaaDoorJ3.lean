/- What the document tells of a frame: package publicanlaw5's awake. -/
import Derived.Test.YtblmfkdcahhhbaaDoorJ2
namespace Go.Proofs.YtblmfkdcahhhbaaDoor
open Go.RowKit
set_option linter.unusedVariables false
set_option linter.unusedSimpArgs false

def abc : List Int := [97, 98, 99]
theorem abc_ok : Bys abc := fun x hx => by simp [abc] at hx; omega
theorem fresh_head (i : Nat) : (fresh.sec i).getD 0 0 ≠ 72 := by show zero64.getD 0 0 ≠ 72; decide
theorem opn_fresh (first count : Nat) : opn fresh first count = ⟨first, count, 0, [], 1⟩ := opn_none (fresh_head first)
/-- A frame on a fresh disk. -/
def one (first : Nat) (life : Nat) (kd : Int) (b : List Int) : St := { fresh with sec := over fresh.sec first 0 (fsize b.length) (fsec kd life 0 b), writes := fsize b.length, left := 0 }
theorem one_add {N first count life : Nat} {kd : Int} {b : List Int} (ok : ArOk N ⟨first, count, life, [], 1⟩) (hb : b.length ≤ 1000) (hr : fsize b.length ≤ count) : addG N fresh ⟨first, count, life, [], 1⟩ kd b = ⟨0, 0, one first life kd b, ⟨first, count, life, [⟨0, kd, b⟩], 1⟩⟩ := by
  rw [addG_well ok hb rfl rfl (by simpa [used] using hr) (Or.inl rfl)]
  simp [one, used, fresh]
theorem one_laid (first life : Nat) (kd : Int) {b : List Int} (hb : b.length ≤ 1000) : Laid (one first life kd b).sec first life [⟨0, kd, b⟩] := by
  have := (Laid.nil fresh.sec first life).add kd b hb
  exact this
theorem one_got {first count life : Nat} {kd : Int} {b : List Int} (hb : b.length ≤ 1000) (hl : life < 18446744073709551616) (hr : fsize b.length ≤ count) : gotG (one first life kd b) ⟨first, count, life, [⟨0, kd, b⟩], 1⟩ 0 0 = ⟨kd, b, 0⟩ := by
  have h := (one_laid first life kd hb).rd (count := count) hl (by simpa [used] using hr) (by simp) (i := 0) (by simp)
  rw [gotG_some rfl rfl h]
  simp
theorem one_opn {first count life : Nat} {kd : Int} {b : List Int} (hb : b.length ≤ 1000) (hl : life < 18446744073709551616) (hr : fsize b.length ≤ count) (hc : count < 4294967296) : opn (one first life kd b) first count = ⟨first, count, life, [⟨0, kd, b⟩], 1⟩ := by
  refine (one_laid first life kd hb).opn hl (by simpa [used] using hr) hc (Stop.quiet ?_) (by simp)
  show (over fresh.sec first 0 (fsize b.length) _ (first + used [⟨0, kd, b⟩])).getD 0 0 ≠ 72
  rw [over_off (by right; simp [used])]
  exact fresh_head _
/-- Ints of a law's own. -/
theorem ln_new (w : World) (l : List Int) (t : TypeId) (hl : l.length ≤ 1000) : Ln (w.alloc (.cells (l.map (Value.int .i64)).toArray t)) (some ⟨w.heap.size, 0, none⟩) l.length l.length (fun i => l.getD i 0) :=
  ⟨Nat.le_refl _, by unfold maxLen; omega, fun e => by simp at e, w.heap.size, fun _ => rfl, fun i hi => by
    rw [cell_of_row _ _ _ _ _ _ (heap_alloc_last w _)]
    simp [List.getD, List.getElem?_eq_getElem hi]⟩

set_option maxRecDepth 100000 in
set_option maxHeartbeats 8000000 in
theorem awake_any (w : World) (T : Tab w) : Calls Tryd.prog 7 #[] w fun e w' => e = .returned (.bool true) ∧ Below w.heap.size w w' := by
  have TT : Hid (Tab w) := T
  clear T
  go_enter Tryd.func7, Tryd.ntmps7
  go_wp2_with fail
  refine (New_yes 10 w (by decide) (by decide)).mono ?_
  rintro e w2 ⟨rfl, d2, b2⟩
  have I2 : Hid (InvD w (w.heap.size + 1) w.heap.size 10 fresh w2) := InvD.new (Below.refl _ _) d2 b2 (by omega) (Nat.le_refl _)
  clear d2 b2
  generalize w.heap.size + 1 = p at *
  obtain ⟨q, hq⟩ : ∃ q, q = w.heap.size := ⟨_, rfl⟩
  rw [← hq] at I2
  clear hq
  go_wp2_with fail
  refine (I2.out.openAt TT.out 2 6 (by decide) (by decide) (by decide) rfl (by decide)).mono ?_
  rintro e w3 ⟨pa, rfl, a3, -⟩
  rw [opn_fresh] at a3
  have A3 : Hid _ := a3
  clear a3 I2
  go_wp2_with fail
  refine A3.out.allAt.mono ?_
  rintro e w4 ⟨⟨a4, c4, rfl, l4⟩, A4', -⟩
  have A4 : Hid _ := A4'
  clear l4 A4' A3
  go_wp2_with fail
  refine (A4.out.beginAt 7 (by decide)).mono ?_
  rintro e w5 ⟨rfl, A5'⟩
  have A5 : Hid _ := A5'
  clear A5' A4
  dsimp only [List.length_nil] at *
  have kc := fun (w : World) (C : Array Value) (n c : Nat) => Lib.run_convert_bytes_const (P := Tryd.prog) w 32 5 C n c Tryd.underlying32 Tryd.underlying5
  have Y6 : Hid (By (w5.alloc (.cells (vals abc).toArray 5 (3, 4))) (some ⟨w5.heap.size, 0, none⟩) 3 3 abc) := by_const w5 abc abc_ok (by decide) (3, 4) 5
  have A6 : Hid _ := A5.out.below (allocB w5 (.cells (vals abc).toArray 5 (3, 4)))
  have AD : Hid _ := A6.out.addAt 5 (by decide) _ _ _ abc Y6.out (by decide)
  rw [one_add A6.out.ok (by decide) (by decide)] at AD
  go_wp2_with fail
  refine Calls.mono AD.out ?_
  rintro e w7 ⟨rfl, A7'⟩
  have A7 : Hid _ := A7'
  clear A7' Y6 A6 AD A5 kc
  go_wp2_with fail
  refine Calls.mono (A7.out.getIs 0 (by decide) rfl (one_got (by decide) (by decide) (by decide))) ?_
  rintro e w8 ⟨⟨⟨a8, c8, rfl, y8, -⟩, -⟩, A8'⟩
  have A8 : Hid _ := A8'
  have Y8 : Hid (By w8 a8 3 c8 abc) := y8
  clear A8' A7 y8
  dsimp only [abc, List.length_cons, List.length_nil, Nat.reduceAdd]
  go_wp2_with fail
  refine (A8.out.inv.openAt TT.out 2 6 (by decide) (by decide) (by decide) rfl (by decide)).mono ?_
  rintro e w9 ⟨pc, rfl, a9, b9⟩
  rw [one_opn (by decide) (by decide) (by decide) (by decide)] at a9
  have A9 : Hid _ := a9
  have st : (convert 32 9 (.slice a8 3 c8)).run Tryd.prog w9 = .ok (.string ⟨#[97, 98, 99]⟩) w9 := (Y8.out.below b9).str
  clear a9 b9 Y8 A8
  go_wp2_with fail
  refine Calls.mono A9.out.lifeAt ?_
  rintro e w' ⟨rfl, rfl⟩
  go_wp2_with fail
  refine Calls.mono A9.out.allAt ?_
  rintro e w10 ⟨⟨a10, c10, rfl, -⟩, A10', -⟩
  have A10 : Hid _ := A10'
  clear A10' A9 st
  dsimp only [List.length_cons, List.length_nil, Nat.reduceAdd]
  go_wp2_with fail
  refine Calls.mono A10.out.roomAt ?_
  rintro e w11 ⟨rfl, A11', -⟩
  have A11 : Hid _ := A11'
  clear A11' A10
  rw [show (({ first := 2, count := 6, life := 7, fs := [⟨0, 5, abc⟩], lives := 1 } : Ar).count - used ({ first := 2, count := 6, life := 7, fs := [⟨0, 5, abc⟩], lives := 1 } : Ar).fs : Nat) = 5 by decide]
  go_wp2_with fail
  refine Calls.mono (Size_any 44 w11 (by decide)) ?_
  rw [show fsize 44 = 1 by decide]
  rintro e w' ⟨rfl, rfl⟩
  go_wp2_with fail
  refine Calls.mono (Size_any 45 w11 (by decide)) ?_
  rw [show fsize 45 = 2 by decide]
  rintro e w' ⟨rfl, rfl⟩
  go_wp2_with fail
  refine Calls.mono (Fits_any 3 _ 2 2 _ _ (ln_new w11 [44, 45] 3 (by decide)) (by decide)) ?_
  rw [show fitB (fun i => ([44, 45] : List Int).getD i 0) 2 3 = true by decide]
  rintro e w' ⟨rfl, rfl⟩
  go_wp2
  go_ret
  exact ⟨rfl, nextB A11.out.b (allocB _ _)⟩

end Go.Proofs.YtblmfkdcahhhbaaDoor
