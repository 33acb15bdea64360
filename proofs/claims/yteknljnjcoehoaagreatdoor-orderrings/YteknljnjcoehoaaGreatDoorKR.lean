/- Parts of the proof. -/
import Derived.Test.YteknljnjcoehoaaGreatDoorKL
import Derived.Test.YteknljnjcoehoaaGreatDoorRows
import Derived.ProofKit
import Derived.OpenShut
import Derived.ShutString
import Derived.ChangeOld
import Derived.Below
import Derived.ChangeMaps5
import Derived.Deep.DeepHandedRow
import Derived.Lib.LaidTab
namespace Go.Proofs.YteknljnjcoehoaaGreatDoor
open Go.RowKit
open Go.ChangeShapes Go.WideShapes Go.ChangeAt Go.RowKit
set_option linter.unusedVariables false
set_option linter.unusedSimpArgs false
theorem own:ownKnob Tryz.prog.godebug=none:=by kernel_rfl
theorem gTab:Tryz.prog.globalNamed "publican/typ.mixed"=some 3:=by kernel_rfl
theorem gTabType:(Tryz.prog.globals[3]?).map (·.type)=some 257:=by kernel_rfl
theorem cells116:Tryz.prog.cellsOf 256=4:=by kernel_rfl
theorem cellsStr:Tryz.prog.cellsOf 9=1:=by kernel_rfl
theorem cellsKind:Tryz.prog.cellsOf 23=1:=by kernel_rfl
def rowD {H:Type} (x:ByteArray × Int × Int × Int):DataW H:=.agg [.lit (.string x.1.data.toList),.lit (.int .i64 x.2.1),.lit (.int .i64 x.2.2.1),.lit (.int .i64 x.2.2.2)]
def rowL (x:ByteArray × Int × Int × Int):List Value:=[.string x.1,.int .i64 x.2.1,.int .i64 x.2.2.1,.int .i64 x.2.2.2]
theorem str_data {s t:ByteArray} (h:s.data.toList=t.data.toList):s=t:=by
 obtain ⟨x⟩:=s
 obtain ⟨y⟩:=t
 have:x=y:=Array.toList_inj.1 h
 rw [this]
theorem fields116:∃ f0 f1 f2 f3:Field,Tryz.prog.underlying 256=some (.struct #[f0,f1,f2,f3])∧(f0.type=9∧f0.offset=0)∧(f1.type=23∧f1.offset=1)∧(f2.type=23∧f2.offset=2)∧(f3.type=23∧f3.offset=3):=⟨_,_,_,_,Tryz.underlying256,⟨rfl,rfl⟩,⟨rfl,rfl⟩,⟨rfl,rfl⟩,⟨rfl,rfl⟩⟩
set_option maxRecDepth 100000 in
theorem row_cells {H:Type} {enc:TypeId × Value→H} {w:World} {base:Nat} {sp:Nat→Bool} {held:Bool} {fuel:Nat} {cs:List Value} {y:DataW H × List MemPlace} {x:ByteArray × Int × Int × Int}
  (h:DataW.trod enc Tryz.prog w base sp held fuel 256 cs=some y) (hy:y.1=rowD x):cs=rowL x:=by
 obtain ⟨f0,f1,f2,f3,hu,⟨t0,o0⟩,⟨t1,o1⟩,⟨t2,o2⟩,⟨t3,o3⟩⟩:=fields116
 obtain ⟨xs,n,_,rfl,hl,hn,hf⟩:=DataW.trod_struct hu h
 rw [cells116] at hl
 match xs,hn with
 | [y0,y1,y2,y3],_ =>
  have g0:=hf 0 f0 rfl
  have g1:=hf 1 f1 rfl
  have g2:=hf 2 f2 rfl
  have g3:=hf 3 f3 rfl
  rw [t0,o0,cellsStr] at g0
  rw [t1,o1,cellsKind] at g1
  rw [t2,o2,cellsKind] at g2
  rw [t3,o3,cellsKind] at g3
  obtain ⟨s,c0,e0,_⟩:=DataW.trod_string Tryz.underlying9 (x:=y0) (by simpa using g0)
  obtain ⟨a1,c1,e1,_⟩:=DataW.trod_int Tryz.underlying23 (x:=y1) (by simpa using g1)
  obtain ⟨a2,c2,e2,_⟩:=DataW.trod_int Tryz.underlying23 (x:=y2) (by simpa using g2)
  obtain ⟨a3,c3,e3,_⟩:=DataW.trod_int Tryz.underlying23 (x:=y3) (by simpa using g3)
  subst e0 e1 e2 e3
  match cs,hl with
  | [v0,v1,v2,v3],_ =>
   simp at c0 c1 c2 c3
   simp [rowD] at hy
   obtain ⟨q0,q1,q2,q3⟩:=hy
   subst c0 c1 c2 c3
   show _=[Value.string x.1,.int .i64 x.2.1,.int .i64 x.2.2.1,.int .i64 x.2.2.2]
   rw [str_data (congrArg Array.toList q0),q1,q2,q3]
theorem mix_datum {H:Type}:(Rows.laid_publican_typ_mixed:DataW H)=.agg (mixL.map rowD):=rfl
theorem cells_of_mix {H:Type} {enc:TypeId × Value→H} {w:World} {base:Nat} {sp:Nat→Bool} {held:Bool} {fuel:Nat} {cs:List Value} {p:List MemPlace}
  (h:DataW.trod enc Tryz.prog w base sp held fuel 257 cs=some (Rows.laid_publican_typ_mixed,p)):∀ i x,mixL[i]?=some x→∀ k,k<4→cs[i*4+k]?=(rowL x)[k]?:=by
 intro i x hx k hk
 obtain ⟨xs,m,_,e,hl,hn,hf⟩:=DataW.trod_array Tryz.underlying257 h
 have hi:i<10:=(List.getElem?_eq_some_iff.1 hx).1
 have hm:xs.map (·.1)=mixL.map rowD:=by
  have:=congrArg Prod.fst e
  rw [mix_datum] at this
  simpa using this.symm
 have g:=hf i hi
 rw [cells116] at g
 obtain ⟨y,hy⟩:∃ y,xs[i]?=some y:=⟨_,List.getElem?_eq_getElem (by omega)⟩
 have y1:y.1=rowD x:=by
  have:=congrArg (·[i]?) hm
  simp [hy,hx] at this
  exact this
 rw [hy] at g
 have:=row_cells g y1
 rw [← this,List.getElem?_take,if_pos hk,List.getElem?_drop]
theorem tabM_of {W:World} (h:laidMetH Tryz.prog [("publican/typ.mixed",Rows.laid_publican_typ_mixed)] W):TabM W:=by
 obtain ⟨ps,⟨g',t',cs,fuel,p,q,hg',ht',hvar,hd,_,_⟩,_⟩:=(h:laidMet Tryz.prog [("publican/typ.mixed",Rows.laid_publican_typ_mixed)] W)
 obtain rfl:=Option.some.inj (gTab.symm.trans hg')
 obtain rfl:=Option.some.inj (gTabType.symm.trans ht')
 have R:=cells_of_mix hd
 have c:∀ i,i<40→W.cell? ⟨3,i,none⟩=mixA[i]?:=fun i hi=>by
  rw [World.var?_cell gTab hvar i]
  have e:cs.toList[i]?=mixA[i]?:=by
   match i,hi with
   | 0,_=>exact R 0 _ rfl 0 (by decide)
   | 1,_=>exact R 0 _ rfl 1 (by decide)
   | 2,_=>exact R 0 _ rfl 2 (by decide)
   | 3,_=>exact R 0 _ rfl 3 (by decide)
   | 4,_=>exact R 1 _ rfl 0 (by decide)
   | 5,_=>exact R 1 _ rfl 1 (by decide)
   | 6,_=>exact R 1 _ rfl 2 (by decide)
   | 7,_=>exact R 1 _ rfl 3 (by decide)
   | 8,_=>exact R 2 _ rfl 0 (by decide)
   | 9,_=>exact R 2 _ rfl 1 (by decide)
   | 10,_=>exact R 2 _ rfl 2 (by decide)
   | 11,_=>exact R 2 _ rfl 3 (by decide)
   | 12,_=>exact R 3 _ rfl 0 (by decide)
   | 13,_=>exact R 3 _ rfl 1 (by decide)
   | 14,_=>exact R 3 _ rfl 2 (by decide)
   | 15,_=>exact R 3 _ rfl 3 (by decide)
   | 16,_=>exact R 4 _ rfl 0 (by decide)
   | 17,_=>exact R 4 _ rfl 1 (by decide)
   | 18,_=>exact R 4 _ rfl 2 (by decide)
   | 19,_=>exact R 4 _ rfl 3 (by decide)
   | 20,_=>exact R 5 _ rfl 0 (by decide)
   | 21,_=>exact R 5 _ rfl 1 (by decide)
   | 22,_=>exact R 5 _ rfl 2 (by decide)
   | 23,_=>exact R 5 _ rfl 3 (by decide)
   | 24,_=>exact R 6 _ rfl 0 (by decide)
   | 25,_=>exact R 6 _ rfl 1 (by decide)
   | 26,_=>exact R 6 _ rfl 2 (by decide)
   | 27,_=>exact R 6 _ rfl 3 (by decide)
   | 28,_=>exact R 7 _ rfl 0 (by decide)
   | 29,_=>exact R 7 _ rfl 1 (by decide)
   | 30,_=>exact R 7 _ rfl 2 (by decide)
   | 31,_=>exact R 7 _ rfl 3 (by decide)
   | 32,_=>exact R 8 _ rfl 0 (by decide)
   | 33,_=>exact R 8 _ rfl 1 (by decide)
   | 34,_=>exact R 8 _ rfl 2 (by decide)
   | 35,_=>exact R 8 _ rfl 3 (by decide)
   | 36,_=>exact R 9 _ rfl 0 (by decide)
   | 37,_=>exact R 9 _ rfl 1 (by decide)
   | 38,_=>exact R 9 _ rfl 2 (by decide)
   | 39,_=>exact R 9 _ rfl 3 (by decide)
   | i+40,hi=>omega
  rw [← e,Array.getElem?_toList]
 exact ⟨World.block_lt_of_cell? _ _ (c 0 (by decide)),c⟩
end Go.Proofs.YteknljnjcoehoaaGreatDoor
