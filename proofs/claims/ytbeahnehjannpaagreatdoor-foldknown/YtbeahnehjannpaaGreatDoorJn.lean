/- Parts of the proof. -/
import Derived.Test.YtbeahnehjannpaaGreatDoorJu
import Derived.Test.YtbeahnehjannpaaGreatDoorJC
import Derived.Test.YtbeahnehjannpaaGreatDoorRows
import Derived.ProofKit
import Derived.OpenShut
import Derived.ShutString
import Derived.ChangeOld
import Derived.Below
import Derived.ChangeMaps5
import Derived.Deep.DeepHandedRow
import Derived.Lib.LaidTab
namespace Go.Proofs.YtbeahnehjannpaaGreatDoor
open Go.RowKit
open Go.ChangeShapes Go.WideShapes Go.ChangeAt Go.RowKit
set_option linter.unusedVariables false
set_option linter.unusedSimpArgs false
theorem gKin:Tryz.prog.globalNamed "publican/syn.kindNames"=some 0:=by kernel_rfl
theorem gKinType:(Tryz.prog.globals[0]?).map (·.type)=some 172:=by kernel_rfl
theorem cellsKin:Tryz.prog.cellsOf 172=7:=by kernel_rfl
theorem gPow:Tryz.prog.globalNamed "internal/strconv.uint64pow10"=some 3:=by kernel_rfl
theorem gPowType:(Tryz.prog.globals[3]?).map (·.type)=some 245:=by kernel_rfl
theorem cellsPow:Tryz.prog.cellsOf 245=20:=by kernel_rfl
theorem cellsU64:Tryz.prog.cellsOf 141=1:=by kernel_rfl
def strData {H:Type} (ss:List (List UInt8)):DataW H:=.agg (ss.map fun z=>.lit (.string z))
theorem cells_of_strs {H:Type} {enc:TypeId × Value→H} {P:Program} {w:World} {base:Nat} {sp:Nat→Bool} {held:Bool} {fuel:Nat} {t e:TypeId} {n:Nat} {cs:List Value} {zs:List (List UInt8)} {p:List MemPlace}
  (ht:P.underlying t=some (.array n e)) (he:P.underlying e=some .string) (hce:P.cellsOf e=1) (hct:P.cellsOf t=n)
  (h:DataW.trod enc P w base sp held fuel t cs=some (strData zs,p)):cs=zs.map fun z=>Value.string (tx z):=by
 cases fuel with
 | zero=>simp [DataW.trod] at h
 | succ fuel =>
  simp only [DataW.trod,ht,hce,hct,Nat.mul_one] at h
  split at h
  ·rename_i hl
   obtain ⟨xs,hm,hx⟩:=Option.map_eq_some_iff.1 h
   have hxs:xs.map (·.1)=zs.map fun z=>(DataW.lit (.string z):DataW H):=by
    have:=congrArg Prod.fst hx
    simpa [strData] using this
   have hxl:xs.length=n:=by simpa using Lib.mapM_length hm
   have hzl:zs.length=n:=by
    have:=congrArg List.length hxs
    simp at this
    omega
   apply List.ext_getElem?
   intro i
   by_cases hi:i<n
   ·obtain ⟨b,hb,hf⟩:=Lib.mapM_at hm i i (by simp [hi])
    obtain ⟨z,hc,rfl,_⟩:=DataW.trod_string he hf
    have h1:cs[i]?=some (.string z):=by
     have:=congrArg (·[0]?) hc
     simpa [List.getElem?_take,List.getElem?_drop] using this
    have h2:(xs.map (·.1))[i]?=some (DataW.lit (.string z.data.toList):DataW H):=by simp [hb]
    rw [hxs] at h2
    simp only [List.getElem?_map,Option.map_eq_some_iff,DataW.lit.injEq,Lit.string.injEq] at h2
    obtain ⟨z',hz',e⟩:=h2
    rw [h1,List.getElem?_map,hz']
    show some (Value.string z)=some (Value.string (tx z'))
    rw [e,tx_data]
   ·rw [List.getElem?_eq_none (by omega),List.getElem?_eq_none (by simp;omega)]
  ·cases h
def kNb:List (List UInt8):=kNl.map fun x=>x.data.toList
structure TbF (w:World):Prop where
 kt:KT w
 pw:Lib.TabIs Tryz.prog w "internal/strconv.uint64pow10" .u64 Lib.pow10Tab
 un:TabU w
theorem TbF.next {w w':World} (h:TbF w) (hb:Below w.heap.size w w'):TbF w':=⟨h.kt.next hb,Lib.tabBelow_of_tabIs h.pw w' hb,h.un.next hb⟩
theorem tbf_of {W:World} (h:laidMetH Tryz.prog Rows.foldKnownRow.laid W):TbF W:=by
 obtain ⟨ps,h0,_⟩:=(h:laidMet Tryz.prog Rows.foldKnownRow.laid W)
 obtain ⟨p1,h1⟩:=lv_next h0
 obtain ⟨p2,h2⟩:=lv_next h1
 obtain ⟨p3,h3⟩:=lv_next h2
 obtain ⟨p4,h4⟩:=lv_next h3
 have A2:DataW.LaidVars Tryz.prog W (("internal/strconv.uint64pow10",Lib.tabData .u64 Lib.pow10Tab) :: _) p2:=h2
 have A3:DataW.LaidVars Tryz.prog W (("publican/syn.kindNames",strData kNb) :: _) p3:=h3
 refine ⟨?_,?_,tabU_lv h4⟩
 ·have hv:W.var? Tryz.prog "publican/syn.kindNames"=some (kNb.map fun z=>Value.string (tx z)).toArray:=by
   obtain ⟨g',t',cs,fuel,p,q,hg',ht',hvar,hd,_,_⟩:=A3
   obtain rfl:=Option.some.inj (gKin.symm.trans hg')
   obtain rfl:=Option.some.inj (gKinType.symm.trans ht')
   rw [hvar,← cells_of_strs Tryz.underlying172 Tryz.underlying9 cellsStr cellsKin hd]
  have c:∀ i,i<7→W.cell? ⟨0,i,none⟩=some (.string (kNm i)):=fun i hi=>by
   have:=World.var?_cell gKin hv i
   rw [this]
   match i,hi with
   | 0,_=>rfl
   | 1,_=>rfl
   | 2,_=>rfl
   | 3,_=>rfl
   | 4,_=>rfl
   | 5,_=>rfl
   | 6,_=>rfl
  exact ⟨World.block_lt_of_cell? _ _ (c 0 (by decide)),c⟩
 ·obtain ⟨g',t',cs,fuel,p,q,hg',ht',hvar,hd,_,_⟩:=A2
  obtain rfl:=Option.some.inj (gPow.symm.trans hg')
  obtain rfl:=Option.some.inj (gPowType.symm.trans ht')
  unfold Lib.TabIs
  rw [hvar,← Lib.cells_of_tab Tryz.underlying245 Tryz.underlying141 cellsU64 cellsPow hd]
noncomputable def laidWorld (os : Go.Os) : World :=
  { World.holding Tryz.prog os ⟨#[], #[], []⟩ with heap := ((((((World.holding Tryz.prog os ⟨#[], #[], []⟩).heap.modify 2 fun
      | .cells _ t frozen => .cells unitA t frozen
      | o => o).modify 0 fun
      | .cells _ t frozen => .cells (kNl.map fun z => Value.string z).toArray t frozen
      | o => o).modify 3 fun
      | .cells _ t frozen => .cells (Lib.pow10Tab.map fun z => Value.int .u64 z).toArray t frozen
      | o => o).modify 7 fun
      | .cells _ t frozen => .cells (([0, 1, 28, 2, 29, 14, 24, 3, 30, 22, 20, 15, 25, 17, 4, 8, 31, 27, 13, 23, 21, 19, 16, 7, 26, 12, 18, 6, 11, 5, 10, 9] : List Int).map fun z => Value.int .u8 z).toArray t frozen
      | o => o).modify 8 fun
      | .cells _ t frozen => .cells (([0, 1, 56, 2, 57, 49, 28, 3, 61, 58, 42, 50, 38, 29, 17, 4, 62, 47, 59, 36, 45, 43, 51, 22, 53, 39, 33, 30, 24, 18, 12, 5, 63, 55, 48, 27, 60, 41, 37, 16, 46, 35, 44, 21, 52, 32, 23, 11, 54, 26, 40, 15, 34, 20, 31, 10, 25, 14, 19, 9, 13, 8, 7, 6] : List Int).map fun z => Value.int .u8 z).toArray t frozen
      | o => o) }
end Go.Proofs.YtbeahnehjannpaaGreatDoor
