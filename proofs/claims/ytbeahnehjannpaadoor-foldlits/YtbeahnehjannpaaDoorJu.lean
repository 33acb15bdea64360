/- Parts of the proof. -/
import Derived.Test.YtbeahnehjannpaaDoorJa
import Derived.Test.YtbeahnehjannpaaDoorRows
import Derived.ProofKit
import Derived.OpenShut
import Derived.ShutString
import Derived.ChangeOld
import Derived.Below
import Derived.ChangeMaps5
import Derived.Deep.DeepHandedRow
import Derived.Lib.LaidTab
namespace Go.Proofs.YtbeahnehjannpaaDoor
open Go.RowKit
open Go.ChangeShapes Go.WideShapes Go.ChangeAt Go.RowKit
set_option linter.unusedVariables false
set_option linter.unusedSimpArgs false
theorem own:ownKnob Tryd.prog.godebug=none:=by kernel_rfl
theorem gUni:Tryd.prog.globalNamed "publican/mean.units"=some 0:=by kernel_rfl
theorem gUniType:(Tryd.prog.globals[0]?).map (·.type)=some 98:=by kernel_rfl
theorem cellsUniE:Tryd.prog.cellsOf 97=4:=by kernel_rfl
theorem cellsStr:Tryd.prog.cellsOf 9=1:=by kernel_rfl
theorem cellsKind:Tryd.prog.cellsOf 25=1:=by kernel_rfl
def rowU {H:Type} (x:ByteArray × Int × Int × Int):DataW H:=.agg [.lit (.string x.1.data.toList),.lit (.int .i64 x.2.1),.lit (.int .i64 x.2.2.1),.lit (.int .i64 x.2.2.2)]
def rowV (x:ByteArray × Int × Int × Int):List Value:=[.string x.1,.int .i64 x.2.1,.int .i64 x.2.2.1,.int .i64 x.2.2.2]
theorem str_dataU {s t:ByteArray} (h:s.data.toList=t.data.toList):s=t:=by
 obtain ⟨x⟩:=s
 obtain ⟨y⟩:=t
 have:x=y:=Array.toList_inj.1 h
 rw [this]
theorem fieldsUni:∃ f0 f1 f2 f3:Field,Tryd.prog.underlying 97=some (.struct #[f0,f1,f2,f3])∧(f0.type=9∧f0.offset=0)∧(f1.type=25∧f1.offset=1)∧(f2.type=25∧f2.offset=2)∧(f3.type=25∧f3.offset=3):=⟨_,_,_,_,Tryd.underlying97,⟨rfl,rfl⟩,⟨rfl,rfl⟩,⟨rfl,rfl⟩,⟨rfl,rfl⟩⟩
set_option maxRecDepth 100000 in
theorem row_cellsU {H:Type} {enc:TypeId × Value→H} {w:World} {base:Nat} {sp:Nat→Bool} {held:Bool} {fuel:Nat} {cs:List Value} {y:DataW H × List MemPlace} {x:ByteArray × Int × Int × Int}
  (h:DataW.trod enc Tryd.prog w base sp held fuel 97 cs=some y) (hy:y.1=rowU x):cs=rowV x:=by
 obtain ⟨f0,f1,f2,f3,hu,⟨t0,o0⟩,⟨t1,o1⟩,⟨t2,o2⟩,⟨t3,o3⟩⟩:=fieldsUni
 obtain ⟨xs,n,_,rfl,hl,hn,hf⟩:=DataW.trod_struct hu h
 rw [cellsUniE] at hl
 match xs,hn with
 | [y0,y1,y2,y3],_ =>
  have g0:=hf 0 f0 rfl
  have g1:=hf 1 f1 rfl
  have g2:=hf 2 f2 rfl
  have g3:=hf 3 f3 rfl
  rw [t0,o0,cellsStr] at g0
  rw [t1,o1,cellsKind] at g1
  rw [t2,o2,cellsKind] at g2
  rw [t3,o3,cellsKind] at g3
  obtain ⟨s,c0,e0,_⟩:=DataW.trod_string Tryd.underlying9 (x:=y0) (by simpa using g0)
  obtain ⟨a1,c1,e1,_⟩:=DataW.trod_int Tryd.underlying25 (x:=y1) (by simpa using g1)
  obtain ⟨a2,c2,e2,_⟩:=DataW.trod_int Tryd.underlying25 (x:=y2) (by simpa using g2)
  obtain ⟨a3,c3,e3,_⟩:=DataW.trod_int Tryd.underlying25 (x:=y3) (by simpa using g3)
  subst e0 e1 e2 e3
  match cs,hl with
  | [v0,v1,v2,v3],_ =>
   simp at c0 c1 c2 c3
   simp [rowU] at hy
   obtain ⟨q0,q1,q2,q3⟩:=hy
   subst c0 c1 c2 c3
   show _=[Value.string x.1,.int .i64 x.2.1,.int .i64 x.2.2.1,.int .i64 x.2.2.2]
   rw [str_dataU (congrArg Array.toList q0),q1,q2,q3]
theorem uni_datum {H:Type}:(Rows.laid_publican_mean_units:DataW H)=.agg (unitL.map rowU):=rfl
theorem cells_of_uni {H:Type} {enc:TypeId × Value→H} {w:World} {base:Nat} {sp:Nat→Bool} {held:Bool} {fuel:Nat} {cs:List Value} {p:List MemPlace}
  (h:DataW.trod enc Tryd.prog w base sp held fuel 98 cs=some (Rows.laid_publican_mean_units,p)):∀ i x,unitL[i]?=some x→∀ k,k<4→cs[i*4+k]?=(rowV x)[k]?:=by
 intro i x hx k hk
 obtain ⟨xs,m,_,e,hl,hn,hf⟩:=DataW.trod_array Tryd.underlying98 h
 have hi:i<16:=(List.getElem?_eq_some_iff.1 hx).1
 have hm:xs.map (·.1)=unitL.map rowU:=by
  have:=congrArg Prod.fst e
  rw [uni_datum] at this
  simpa using this.symm
 have g:=hf i hi
 rw [cellsUniE] at g
 obtain ⟨y,hy⟩:∃ y,xs[i]?=some y:=⟨_,List.getElem?_eq_getElem (by omega)⟩
 have y1:y.1=rowU x:=by
  have:=congrArg (·[i]?) hm
  simp [hy,hx] at this
  exact this
 rw [hy] at g
 have:=row_cellsU g y1
 rw [← this,List.getElem?_take,if_pos hk,List.getElem?_drop]
theorem tabU_lv {W:World} {rest:List (String × DataW Unit)} {ps:List MemPlace} (h:DataW.LaidVars Tryd.prog W (("publican/mean.units",Rows.laid_publican_mean_units) :: rest) ps):TabU W:=by
 obtain ⟨g',t',cs,fuel,p,q,hg',ht',hvar,hd,_,_⟩:=h
 obtain rfl:=Option.some.inj (gUni.symm.trans hg')
 obtain rfl:=Option.some.inj (gUniType.symm.trans ht')
 have R:=cells_of_uni hd
 have c:∀ i,i<64→W.cell? ⟨0,i,none⟩=unitA[i]?:=fun i hi=>by
  rw [World.var?_cell gUni hvar i]
  have e:cs.toList[i]?=unitA[i]?:=by
   match i,hi with
   | 0,_=>exact R 0 _ rfl 0 (by decide)
   | 1,_=>exact R 0 _ rfl 1 (by decide)
   | 2,_=>exact R 0 _ rfl 2 (by decide)
   | 3,_=>exact R 0 _ rfl 3 (by decide)
   | 4,_=>exact R 1 _ rfl 0 (by decide)
   | 5,_=>exact R 1 _ rfl 1 (by decide)
   | 6,_=>exact R 1 _ rfl 2 (by decide)
   | 7,_=>exact R 1 _ rfl 3 (by decide)
   | 8,_=>exact R 2 _ rfl 0 (by decide)
   | 9,_=>exact R 2 _ rfl 1 (by decide)
   | 10,_=>exact R 2 _ rfl 2 (by decide)
   | 11,_=>exact R 2 _ rfl 3 (by decide)
   | 12,_=>exact R 3 _ rfl 0 (by decide)
   | 13,_=>exact R 3 _ rfl 1 (by decide)
   | 14,_=>exact R 3 _ rfl 2 (by decide)
   | 15,_=>exact R 3 _ rfl 3 (by decide)
   | 16,_=>exact R 4 _ rfl 0 (by decide)
   | 17,_=>exact R 4 _ rfl 1 (by decide)
   | 18,_=>exact R 4 _ rfl 2 (by decide)
   | 19,_=>exact R 4 _ rfl 3 (by decide)
   | 20,_=>exact R 5 _ rfl 0 (by decide)
   | 21,_=>exact R 5 _ rfl 1 (by decide)
   | 22,_=>exact R 5 _ rfl 2 (by decide)
   | 23,_=>exact R 5 _ rfl 3 (by decide)
   | 24,_=>exact R 6 _ rfl 0 (by decide)
   | 25,_=>exact R 6 _ rfl 1 (by decide)
   | 26,_=>exact R 6 _ rfl 2 (by decide)
   | 27,_=>exact R 6 _ rfl 3 (by decide)
   | 28,_=>exact R 7 _ rfl 0 (by decide)
   | 29,_=>exact R 7 _ rfl 1 (by decide)
   | 30,_=>exact R 7 _ rfl 2 (by decide)
   | 31,_=>exact R 7 _ rfl 3 (by decide)
   | 32,_=>exact R 8 _ rfl 0 (by decide)
   | 33,_=>exact R 8 _ rfl 1 (by decide)
   | 34,_=>exact R 8 _ rfl 2 (by decide)
   | 35,_=>exact R 8 _ rfl 3 (by decide)
   | 36,_=>exact R 9 _ rfl 0 (by decide)
   | 37,_=>exact R 9 _ rfl 1 (by decide)
   | 38,_=>exact R 9 _ rfl 2 (by decide)
   | 39,_=>exact R 9 _ rfl 3 (by decide)
   | 40,_=>exact R 10 _ rfl 0 (by decide)
   | 41,_=>exact R 10 _ rfl 1 (by decide)
   | 42,_=>exact R 10 _ rfl 2 (by decide)
   | 43,_=>exact R 10 _ rfl 3 (by decide)
   | 44,_=>exact R 11 _ rfl 0 (by decide)
   | 45,_=>exact R 11 _ rfl 1 (by decide)
   | 46,_=>exact R 11 _ rfl 2 (by decide)
   | 47,_=>exact R 11 _ rfl 3 (by decide)
   | 48,_=>exact R 12 _ rfl 0 (by decide)
   | 49,_=>exact R 12 _ rfl 1 (by decide)
   | 50,_=>exact R 12 _ rfl 2 (by decide)
   | 51,_=>exact R 12 _ rfl 3 (by decide)
   | 52,_=>exact R 13 _ rfl 0 (by decide)
   | 53,_=>exact R 13 _ rfl 1 (by decide)
   | 54,_=>exact R 13 _ rfl 2 (by decide)
   | 55,_=>exact R 13 _ rfl 3 (by decide)
   | 56,_=>exact R 14 _ rfl 0 (by decide)
   | 57,_=>exact R 14 _ rfl 1 (by decide)
   | 58,_=>exact R 14 _ rfl 2 (by decide)
   | 59,_=>exact R 14 _ rfl 3 (by decide)
   | 60,_=>exact R 15 _ rfl 0 (by decide)
   | 61,_=>exact R 15 _ rfl 1 (by decide)
   | 62,_=>exact R 15 _ rfl 2 (by decide)
   | 63,_=>exact R 15 _ rfl 3 (by decide)
   | i+64,hi=>omega
  rw [← e,Array.getElem?_toList]
 exact ⟨World.block_lt_of_cell? _ _ (c 0 (by decide)),c⟩
end Go.Proofs.YtbeahnehjannpaaDoor
