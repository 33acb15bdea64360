/- The walk over verify's operated. -/
import Derived.Test.YtjkbiglnpoeddaaDoorVfl
namespace Go.Proofs.YtjkbiglnpoeddaaDoor.Vf
open Go.RowKit
set_option linter.unusedVariables false
set_option linter.unusedSimpArgs false

def fB (x : ByteArray) : List Value := [.string x]
theorem info_tStr : (Tryd.prog.info? 9).map (fun i => (i.zero, i.size, i.bytes)) = some (some (.string ⟨#[]⟩), 1, 16) := by kernel_rfl
def unB (nm : ByteArray) (is : Int) (u : ByteArray × Int × Int × Int) : Bool := (u.1.toList == nm.toList) && (u.2.1 == is)
/-- Of which two kinds an operator makes that one; of the first units. -/
def opdT (nm : ByteArray) (is : Int) : Nat → List ByteArray
  | 0 => []
  | n + 1 => opdT nm is n ++ (match unL[n]? with | some u => if unB nm is u = true then [strOfNums [u.2.2.1, u.2.2.2]] else [] | none => [])
theorem opdT_next {nm : ByteArray} {is : Int} {n : Nat} {u : ByteArray × Int × Int × Int} (h : unL[n]? = some u) : opdT nm is (n + 1) = opdT nm is n ++ (if unB nm is u = true then [strOfNums [u.2.2.1, u.2.2.2]] else []) := by
  show opdT nm is n ++ _ = _
  rw [h]
theorem opdT_len (nm : ByteArray) (is : Int) : ∀ n, (opdT nm is n).length ≤ n
  | 0 => Nat.le_refl _
  | n + 1 => by
    have := opdT_len nm is n
    show (opdT nm is n ++ _).length ≤ _
    rw [List.length_append]
    split
    · split <;> simp <;> omega
    · simp; omega
theorem un_kinds : ∀ u, u ∈ unL → ∀ k, k ∈ [u.2.2.1, u.2.2.2] → 0 ≤ k ∧ k < 256 := by decide
structure SI (w wr : World) (v : Value) (ls : List ByteArray) : Prop where
  row : Qf 9 1 fB wr w.heap.size v ls
  bl : Below w.heap.size w wr
theorem SI.next {w a b : World} {v : Value} {ls : List ByteArray} (h : SI w a v ls) (k : Below a.heap.size a b) : SI w b v ls := ⟨h.row.next k, nxB h.bl k⟩
theorem SI.cast {w a : World} {v : Value} {ls ls' : List ByteArray} (h : SI w a v ls) (e : ls = ls') : SI w a v ls' := e ▸ h
set_option maxRecDepth 100000 in
set_option maxHeartbeats 8000000 in
theorem operated_any {w : World} (hT : UT w) (nm : ByteArray) (is : Int) :
    Calls Tryd.prog 52 #[.string nm, .int .i64 is] w fun e w' => ∃ v, e = .returned v ∧ SI w w' v (opdT nm is 19) := by
  have T := hid hT
  clear hT
  go_enter Tryd.func52, Tryd.ntmps52
  go_upto_region 2 with fail
  go_wp2_with (refine wpList_un rfl rfl T.out ?_)
  have TA := hid (rfl : unA = unA)
  generalize hmA : unA = mA at *
  go_loopg [5, 9] (19) (fun g rv iv wr => ∃ i : Nat, i ≤ 19 ∧ g = 19 - i ∧ iv = .int .i64 (i : Nat) ∧ Hid (SI w wr rv (opdT nm is i)))
  case atStart => exact ⟨0, by omega, rfl, rfl, ⟨Qf.nil _ _ _ _ _, Below.refl _ _⟩⟩
  case round =>
    obtain ⟨i, hi, rfl, rfl, HI⟩ := hrel
    by_cases q : i < 19
    · have q' : (i : Int) < 19 := by omega
      obtain ⟨⟨o, x, y, z⟩, hx⟩ : ∃ x, unL[i]? = some x := ⟨_, List.getElem?_eq_getElem (by show i < 19; exact q)⟩
      have IX := idx_un i _ hx
      rw [hmA] at IX
      dsimp only at IX
      have HN := hid (opdT_next (nm := nm) (is := is) hx)
      have HK := hid (un_kinds _ (List.mem_of_getElem? hx))
      have ix := IX wr
      have AL := allocB wr (.cells #[.string o, .int .i64 x, .int .i64 y, .int .i64 z] 103)
      have X1 := hid (Bx.new wr #[.string o, .int .i64 x, .int .i64 y, .int .i64 z] 103 (by decide))
      have I1 := hid (HI.out.next AL)
      clear hx IX AL HI
      go_upto_region 5 with fail
      clear ix
      generalize World.alloc wr _ = w3 at *
      generalize wr.heap.size = xb at *
      obtain ⟨x0, x1, x2, x3⟩ := Bx.q4 X1.out
      cases zn : (o.toList == nm.toList) with
      | false =>
        have HE := hid (show opdT nm is (i + 1) = opdT nm is i from by rw [HN.out, if_neg (by simp [unB, zn]), List.append_nil])
        go_wp2_with fail
        go_roundg (19 - (i + 1))
        case measure => omega
        case rel => exact ⟨i + 1, by omega, rfl, by rw [Int.natCast_add]; rfl, I1.out.cast HE.out.symm⟩
      | true =>
        cases zi : (x == is) with
        | false =>
          have HE := hid (show opdT nm is (i + 1) = opdT nm is i from by rw [HN.out, if_neg (by simp [unB, zn, zi]), List.append_nil])
          go_wp2_with fail
          go_roundg (19 - (i + 1))
          case measure => omega
          case rel => exact ⟨i + 1, by omega, rfl, by rw [Int.natCast_add]; rfl, I1.out.cast HE.out.symm⟩
        | true =>
          have HE := hid (show opdT nm is (i + 1) = opdT nm is i ++ [strOfNums [y, z]] from by rw [HN.out, if_pos (by simp [unB, zn, zi])])
          have VN := vw_new w3 38 [y, z] (by simp)
          have KK := hid (show Calls Tryd.prog 51 #[.slice (some ⟨w3.heap.size, 0, none⟩) 2 2] (w3.alloc (.cells #[.int .i64 y, .int .i64 z] 38)) (fun e w' => e = .returned (.string (strOfNums [y, z])) ∧ Below (w3.alloc (.cells #[.int .i64 y, .int .i64 z] 38)).heap.size (w3.alloc (.cells #[.int .i64 y, .int .i64 z] 38)) w') from kinds_any (cap := 2) VN HK.out (by simp))
          have I4 := hid (I1.out.next (allocB w3 (.cells #[.int .i64 y, .int .i64 z] 38)))
          have LX := hid (show (opdT nm is i).length ≤ 100000000 from by have := opdT_len nm is i; omega)
          obtain ⟨sv, hs⟩ : ∃ sv, strOfNums [y, z] = sv := ⟨_, rfl⟩
          rw [hs] at KK HE
          clear VN hs I1
          go_wp2_with (first | (go_at_call 51; (with_reducible refine Calls.mono KK.out ?_); rintro e w5 ⟨rfl, b5⟩; have I5 := hid (I4.out.next b5); have AL := allocB w5 (.cells (fB sv).toArray 9); have O6 := hid (I5.out.next AL); have C6 := hid (cells_new w5 (fB sv) 9); have SZ := hid (O6.out.bl.size); clear b5 AL) | (at_builtin; refine wpList_addQ 9 32 1 16 (.string ⟨#[]⟩) fB rfl (.tmp 22) (.tmp 29) rfl Tryd.underlying32 info_tStr rfl (by decide) (by decide) (fun _ => rfl) w.heap.size _ (opdT nm is i) sv rfl O6.out.row (fun u hu => by simp [fB] at hu; subst hu; rfl) w5.heap.size rfl C6.out LX.out SZ.out ?_; intro v8 w8 o8 g8))
          have O8 := hid o8
          have B8 := hid (O6.out.bl.grown g8 O6.out.bl.size (fun k hk => (O6.out.row.ty k hk).1))
          clear o8 g8
          go_roundg (19 - (i + 1))
          case measure => omega
          case rel => exact ⟨i + 1, by omega, rfl, by rw [Int.natCast_add]; rfl, SI.cast ⟨O8.out, B8.out⟩ HE.out.symm⟩
    · have q' : ¬ (i : Int) < 19 := by omega
      obtain rfl : i = 19 := by omega
      go_wp2_with fail
      go_ret
      exact ⟨_, rfl, HI.out⟩

end Go.Proofs.YtjkbiglnpoeddaaDoor.Vf
