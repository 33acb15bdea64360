/- Parts of the proof. -/
import Derived.Test.YteknljnjcoehoaaGreatDoorKL
import Derived.BigQuiet
import Derived.Test.YteknljnjcoehoaaGreatDoorKU
import Derived.Deep.RegionHeld3
namespace Go.Proofs.YteknljnjcoehoaaGreatDoor
open Go.RowKit
set_option linter.unusedVariables false
set_option linter.unusedSimpArgs false
def fndM:List (ByteArray × Int × Int × Int)→ByteArray→Int→Int→Int
 | [],_,_,_=>0
 | x :: l,op,a,b=>if eqB x.1 op=true∧x.2.1=a∧x.2.2.1=b then x.2.2.2 else fndM l op a b
structure B4t (w:World) (b:Nat) (v0 v1 v2 v3:Value):Prop where
 c0:w.cell? ⟨b,0,none⟩=some v0
 c1:w.cell? ⟨b,1,none⟩=some v1
 c2:w.cell? ⟨b,2,none⟩=some v2
 c3:w.cell? ⟨b,3,none⟩=some v3
theorem B4t.new (w:World) (t:TypeId) (v0 v1 v2 v3:Value):B4t (w.alloc (.cells #[v0,v1,v2,v3] t)) w.heap.size v0 v1 v2 v3:=⟨by simp,by simp,by simp,by simp⟩
set_option maxRecDepth 100000 in
set_option maxHeartbeats 4000000 in
theorem reck_div (a b:Int) (w:World) (h:TabM w) :Calls Tryz.prog 210 #[.string ⟨#[47]⟩,.int .i64 a,.int .i64 b] w fun e w'=>e=.returned (.int .i64 (fndM mixL ⟨#[47]⟩ a b))∧Below w.heap.size w w':=by
 have HT:=hid h
 obtain ⟨D,hD⟩:∃ D,fndM mixL ⟨#[47]⟩ a b=D:=⟨_,rfl⟩
 have DH:=hid (show fndM (mixL.drop 0) ⟨#[47]⟩ a b=D from hD)
 rw [hD]
 clear h hD
 go_enter Tryz.func210,Tryz.ntmps210
 go_upto_region 5 with fail
 go_wp2_with (refine wpList_mix rfl rfl HT.out ?_)
 have TA:=hid (rfl:mixA=mixA)
 generalize hmA:mixA=mA at *
 go_loopg [34,6,8] (10) (fun g iv rv bv wr=>∃ i:Nat,i≤10∧g=10 - i∧iv=.int .i64 (i:Nat)∧Hid (Below w.heap.size w wr)∧Hid (fndM (mixL.drop i) ⟨#[47]⟩ a b=D))
 case atStart=>exact ⟨0,by omega,rfl,rfl,Below.refl _ _,DH.out⟩
 case round =>
  obtain ⟨i,hi,rfl,rfl,BW,EH⟩:=hrel
  by_cases q:i<10
  ·have q':(i:Int)<10:=by omega
   obtain ⟨⟨o,x,y,z⟩,hx⟩:∃ x,mixL[i]?=some x:=⟨_,List.getElem?_eq_getElem (by show i<10;exact q)⟩
   have IX:=idx_mix i _ hx
   rw [hmA] at IX
   dsimp only at IX
   have SE:=hid (show (if eqB o ⟨#[47]⟩=true∧x=a∧y=b then z else fndM (mixL.drop (i+1)) ⟨#[47]⟩ a b)=D from by
    rw [← EH.out,List.drop_eq_getElem_cons (show i<mixL.length from q)]
    rw [List.getElem?_eq_getElem (show i<mixL.length from q)] at hx
    injection hx with hx
    rw [hx]
    rfl)
   have ix:=IX wr
   have X1:=hid (B4t.new wr 256 (.string o) (.int .i64 x) (.int .i64 y) (.int .i64 z))
   have B1:=hid (nextB BW.out (show Below wr.heap.size wr (wr.alloc (.cells #[.string o,.int .i64 x,.int .i64 y,.int .i64 z] 256)) from (Below.refl _ _).alloc (Nat.le_refl _) _))
   clear hx EH IX
   go_upto_region 8 with fail
   clear ix
   generalize World.alloc wr _=w1 at *
   generalize wr.heap.size=bb at *
   obtain ⟨c0,c1,c2,c3⟩:=X1.out
   cases y1:eqB o ⟨#[47]⟩ with
   | false =>
    have z1:(o.toList==[47])=false:=(eqL _ _).trans y1
    have FF:=hid (show fndM (mixL.drop (i+1)) ⟨#[47]⟩ a b=D from by rw [← SE.out,y1];simp)
    clear y1 SE
    go_wp2_with fail
    go_roundg (10 - (i+1))
    case measure=>omega
    case rel=>exact ⟨i+1,by omega,rfl,by rw [Int.natCast_add];rfl,B1.out,FF.out⟩
   | true =>
    have z1:(o.toList==[47])=true:=(eqL _ _).trans y1
    by_cases y2:x=a
    ·have z2:(x==a)=true:=by simpa using y2
     by_cases y3:y=b
     ·have z3:(y==b)=true:=by simpa using y3
      have FF:=hid (show z=D from by rw [← SE.out,if_pos ⟨y1,y2,y3⟩])
      clear y1 y2 y3 SE
      go_wp2_with fail
      go_returns
      exact ⟨by rw [FF.out];rfl,B1.out⟩
     ·have z3:(y==b)=false:=beqI _ _ y3
      have FF:=hid (show fndM (mixL.drop (i+1)) ⟨#[47]⟩ a b=D from by rw [← SE.out,if_neg (fun h=>y3 h.2.2)])
      clear y1 y2 y3 SE
      go_wp2_with fail
      go_roundg (10 - (i+1))
      case measure=>omega
      case rel=>exact ⟨i+1,by omega,rfl,by rw [Int.natCast_add];rfl,B1.out,FF.out⟩
    ·have z2:(x==a)=false:=beqI _ _ y2
     have FF:=hid (show fndM (mixL.drop (i+1)) ⟨#[47]⟩ a b=D from by rw [← SE.out,if_neg (fun h=>y2 h.2.1)])
     clear y1 y2 SE
     go_wp2_with fail
     go_roundg (10 - (i+1))
     case measure=>omega
     case rel=>exact ⟨i+1,by omega,rfl,by rw [Int.natCast_add];rfl,B1.out,FF.out⟩
  ·have q':¬ (i:Int)<10:=by omega
   have FF:D=0:=by rw [← EH.out,List.drop_eq_nil_of_le (by show 10≤i;omega)];rfl
   subst FF
   go_wp2_with fail
   go_returns
   exact ⟨rfl,BW.out⟩
set_option maxRecDepth 100000 in
set_option maxHeartbeats 4000000 in
theorem reck_add_ne (a b:Int) (w:World) (h:TabM w) (hne:(a==b)=false):Calls Tryz.prog 210 #[.string ⟨#[43]⟩,.int .i64 a,.int .i64 b] w fun e w'=>e=.returned (.int .i64 (fndM mixL ⟨#[43]⟩ a b))∧Below w.heap.size w w':=by
 have HT:=hid h
 obtain ⟨D,hD⟩:∃ D,fndM mixL ⟨#[43]⟩ a b=D:=⟨_,rfl⟩
 have DH:=hid (show fndM (mixL.drop 0) ⟨#[43]⟩ a b=D from hD)
 rw [hD]
 clear h hD
 go_enter Tryz.func210,Tryz.ntmps210
 go_upto_region 5 with fail
 go_wp2_with (refine wpList_mix rfl rfl HT.out ?_)
 have TA:=hid (rfl:mixA=mixA)
 generalize hmA:mixA=mA at *
 go_loopg [34,6,8] (10) (fun g iv rv bv wr=>∃ i:Nat,i≤10∧g=10 - i∧iv=.int .i64 (i:Nat)∧Hid (Below w.heap.size w wr)∧Hid (fndM (mixL.drop i) ⟨#[43]⟩ a b=D))
 case atStart=>exact ⟨0,by omega,rfl,rfl,Below.refl _ _,DH.out⟩
 case round =>
  obtain ⟨i,hi,rfl,rfl,BW,EH⟩:=hrel
  by_cases q:i<10
  ·have q':(i:Int)<10:=by omega
   obtain ⟨⟨o,x,y,z⟩,hx⟩:∃ x,mixL[i]?=some x:=⟨_,List.getElem?_eq_getElem (by show i<10;exact q)⟩
   have IX:=idx_mix i _ hx
   rw [hmA] at IX
   dsimp only at IX
   have SE:=hid (show (if eqB o ⟨#[43]⟩=true∧x=a∧y=b then z else fndM (mixL.drop (i+1)) ⟨#[43]⟩ a b)=D from by
    rw [← EH.out,List.drop_eq_getElem_cons (show i<mixL.length from q)]
    rw [List.getElem?_eq_getElem (show i<mixL.length from q)] at hx
    injection hx with hx
    rw [hx]
    rfl)
   have ix:=IX wr
   have X1:=hid (B4t.new wr 256 (.string o) (.int .i64 x) (.int .i64 y) (.int .i64 z))
   have B1:=hid (nextB BW.out (show Below wr.heap.size wr (wr.alloc (.cells #[.string o,.int .i64 x,.int .i64 y,.int .i64 z] 256)) from (Below.refl _ _).alloc (Nat.le_refl _) _))
   clear hx EH IX
   go_upto_region 8 with fail
   clear ix
   generalize World.alloc wr _=w1 at *
   generalize wr.heap.size=bb at *
   obtain ⟨c0,c1,c2,c3⟩:=X1.out
   cases y1:eqB o ⟨#[43]⟩ with
   | false =>
    have z1:(o.toList==[43])=false:=(eqL _ _).trans y1
    have FF:=hid (show fndM (mixL.drop (i+1)) ⟨#[43]⟩ a b=D from by rw [← SE.out,y1];simp)
    clear y1 SE
    go_wp2_with fail
    go_roundg (10 - (i+1))
    case measure=>omega
    case rel=>exact ⟨i+1,by omega,rfl,by rw [Int.natCast_add];rfl,B1.out,FF.out⟩
   | true =>
    have z1:(o.toList==[43])=true:=(eqL _ _).trans y1
    by_cases y2:x=a
    ·have z2:(x==a)=true:=by simpa using y2
     by_cases y3:y=b
     ·have z3:(y==b)=true:=by simpa using y3
      have FF:=hid (show z=D from by rw [← SE.out,if_pos ⟨y1,y2,y3⟩])
      clear y1 y2 y3 SE
      go_wp2_with fail
      go_returns
      exact ⟨by rw [FF.out];rfl,B1.out⟩
     ·have z3:(y==b)=false:=beqI _ _ y3
      have FF:=hid (show fndM (mixL.drop (i+1)) ⟨#[43]⟩ a b=D from by rw [← SE.out,if_neg (fun h=>y3 h.2.2)])
      clear y1 y2 y3 SE
      go_wp2_with fail
      go_roundg (10 - (i+1))
      case measure=>omega
      case rel=>exact ⟨i+1,by omega,rfl,by rw [Int.natCast_add];rfl,B1.out,FF.out⟩
    ·have z2:(x==a)=false:=beqI _ _ y2
     have FF:=hid (show fndM (mixL.drop (i+1)) ⟨#[43]⟩ a b=D from by rw [← SE.out,if_neg (fun h=>y2 h.2.1)])
     clear y1 y2 SE
     go_wp2_with fail
     go_roundg (10 - (i+1))
     case measure=>omega
     case rel=>exact ⟨i+1,by omega,rfl,by rw [Int.natCast_add];rfl,B1.out,FF.out⟩
  ·have q':¬ (i:Int)<10:=by omega
   have FF:D=0:=by rw [← EH.out,List.drop_eq_nil_of_le (by show 10≤i;omega)];rfl
   subst FF
   go_wp2_with fail
   go_returns
   exact ⟨rfl,BW.out⟩
set_option maxRecDepth 100000 in
set_option maxHeartbeats 4000000 in
theorem reck_add_no (a b:Int) (w:World) (h:TabM w) (hne:(a==b)=true) (ha:amt a=false):Calls Tryz.prog 210 #[.string ⟨#[43]⟩,.int .i64 a,.int .i64 b] w fun e w'=>e=.returned (.int .i64 (fndM mixL ⟨#[43]⟩ a b))∧Below w.heap.size w w':=by
 have HT:=hid h
 obtain ⟨D,hD⟩:∃ D,fndM mixL ⟨#[43]⟩ a b=D:=⟨_,rfl⟩
 have DH:=hid (show fndM (mixL.drop 0) ⟨#[43]⟩ a b=D from hD)
 rw [hD]
 clear h hD
 have K:=hid (amount_any a)
 rw [ha] at K
 clear ha
 go_enter Tryz.func210,Tryz.ntmps210
 go_upto_region 5 with (go_at_call 209;with_reducible refine Calls.mono (K.out _) ?_;rintro e w2 ⟨rfl,rfl⟩)
 go_wp2_with (refine wpList_mix rfl rfl HT.out ?_)
 have TA:=hid (rfl:mixA=mixA)
 generalize hmA:mixA=mA at *
 go_loopg [34,6,8] (10) (fun g iv rv bv wr=>∃ i:Nat,i≤10∧g=10 - i∧iv=.int .i64 (i:Nat)∧Hid (Below w.heap.size w wr)∧Hid (fndM (mixL.drop i) ⟨#[43]⟩ a b=D))
 case atStart=>exact ⟨0,by omega,rfl,rfl,Below.refl _ _,DH.out⟩
 case round =>
  obtain ⟨i,hi,rfl,rfl,BW,EH⟩:=hrel
  by_cases q:i<10
  ·have q':(i:Int)<10:=by omega
   obtain ⟨⟨o,x,y,z⟩,hx⟩:∃ x,mixL[i]?=some x:=⟨_,List.getElem?_eq_getElem (by show i<10;exact q)⟩
   have IX:=idx_mix i _ hx
   rw [hmA] at IX
   dsimp only at IX
   have SE:=hid (show (if eqB o ⟨#[43]⟩=true∧x=a∧y=b then z else fndM (mixL.drop (i+1)) ⟨#[43]⟩ a b)=D from by
    rw [← EH.out,List.drop_eq_getElem_cons (show i<mixL.length from q)]
    rw [List.getElem?_eq_getElem (show i<mixL.length from q)] at hx
    injection hx with hx
    rw [hx]
    rfl)
   have ix:=IX wr
   have X1:=hid (B4t.new wr 256 (.string o) (.int .i64 x) (.int .i64 y) (.int .i64 z))
   have B1:=hid (nextB BW.out (show Below wr.heap.size wr (wr.alloc (.cells #[.string o,.int .i64 x,.int .i64 y,.int .i64 z] 256)) from (Below.refl _ _).alloc (Nat.le_refl _) _))
   clear hx EH IX
   go_upto_region 8 with fail
   clear ix
   generalize World.alloc wr _=w1 at *
   generalize wr.heap.size=bb at *
   obtain ⟨c0,c1,c2,c3⟩:=X1.out
   cases y1:eqB o ⟨#[43]⟩ with
   | false =>
    have z1:(o.toList==[43])=false:=(eqL _ _).trans y1
    have FF:=hid (show fndM (mixL.drop (i+1)) ⟨#[43]⟩ a b=D from by rw [← SE.out,y1];simp)
    clear y1 SE
    go_wp2_with fail
    go_roundg (10 - (i+1))
    case measure=>omega
    case rel=>exact ⟨i+1,by omega,rfl,by rw [Int.natCast_add];rfl,B1.out,FF.out⟩
   | true =>
    have z1:(o.toList==[43])=true:=(eqL _ _).trans y1
    by_cases y2:x=a
    ·have z2:(x==a)=true:=by simpa using y2
     by_cases y3:y=b
     ·have z3:(y==b)=true:=by simpa using y3
      have FF:=hid (show z=D from by rw [← SE.out,if_pos ⟨y1,y2,y3⟩])
      clear y1 y2 y3 SE
      go_wp2_with fail
      go_returns
      exact ⟨by rw [FF.out];rfl,B1.out⟩
     ·have z3:(y==b)=false:=beqI _ _ y3
      have FF:=hid (show fndM (mixL.drop (i+1)) ⟨#[43]⟩ a b=D from by rw [← SE.out,if_neg (fun h=>y3 h.2.2)])
      clear y1 y2 y3 SE
      go_wp2_with fail
      go_roundg (10 - (i+1))
      case measure=>omega
      case rel=>exact ⟨i+1,by omega,rfl,by rw [Int.natCast_add];rfl,B1.out,FF.out⟩
    ·have z2:(x==a)=false:=beqI _ _ y2
     have FF:=hid (show fndM (mixL.drop (i+1)) ⟨#[43]⟩ a b=D from by rw [← SE.out,if_neg (fun h=>y2 h.2.1)])
     clear y1 y2 SE
     go_wp2_with fail
     go_roundg (10 - (i+1))
     case measure=>omega
     case rel=>exact ⟨i+1,by omega,rfl,by rw [Int.natCast_add];rfl,B1.out,FF.out⟩
  ·have q':¬ (i:Int)<10:=by omega
   have FF:D=0:=by rw [← EH.out,List.drop_eq_nil_of_le (by show 10≤i;omega)];rfl
   subst FF
   go_wp2_with fail
   go_returns
   exact ⟨rfl,BW.out⟩
set_option maxRecDepth 100000 in
theorem reck_add_yes (a b:Int) (w:World) (hne:(a==b)=true) (ha:amt a=true):Calls Tryz.prog 210 #[.string ⟨#[43]⟩,.int .i64 a,.int .i64 b] w fun e w'=>e=.returned (.int .i64 a)∧Below w.heap.size w w':=by
 have K:=hid (amount_any a)
 rw [ha] at K
 clear ha
 go_enter Tryz.func210,Tryz.ntmps210
 go_wp2_with (go_at_call 209;with_reducible refine Calls.mono (K.out _) ?_;rintro e w2 ⟨rfl,rfl⟩)
 go_returns
 exact ⟨rfl,Below.refl _ _⟩
set_option maxRecDepth 100000 in
set_option maxHeartbeats 4000000 in
theorem reck_sub_ne (a b:Int) (w:World) (h:TabM w) (hne:(a==b)=false):Calls Tryz.prog 210 #[.string ⟨#[45]⟩,.int .i64 a,.int .i64 b] w fun e w'=>e=.returned (.int .i64 (fndM mixL ⟨#[45]⟩ a b))∧Below w.heap.size w w':=by
 have HT:=hid h
 obtain ⟨D,hD⟩:∃ D,fndM mixL ⟨#[45]⟩ a b=D:=⟨_,rfl⟩
 have DH:=hid (show fndM (mixL.drop 0) ⟨#[45]⟩ a b=D from hD)
 rw [hD]
 clear h hD
 go_enter Tryz.func210,Tryz.ntmps210
 go_upto_region 5 with fail
 go_wp2_with (refine wpList_mix rfl rfl HT.out ?_)
 have TA:=hid (rfl:mixA=mixA)
 generalize hmA:mixA=mA at *
 go_loopg [34,6,8] (10) (fun g iv rv bv wr=>∃ i:Nat,i≤10∧g=10 - i∧iv=.int .i64 (i:Nat)∧Hid (Below w.heap.size w wr)∧Hid (fndM (mixL.drop i) ⟨#[45]⟩ a b=D))
 case atStart=>exact ⟨0,by omega,rfl,rfl,Below.refl _ _,DH.out⟩
 case round =>
  obtain ⟨i,hi,rfl,rfl,BW,EH⟩:=hrel
  by_cases q:i<10
  ·have q':(i:Int)<10:=by omega
   obtain ⟨⟨o,x,y,z⟩,hx⟩:∃ x,mixL[i]?=some x:=⟨_,List.getElem?_eq_getElem (by show i<10;exact q)⟩
   have IX:=idx_mix i _ hx
   rw [hmA] at IX
   dsimp only at IX
   have SE:=hid (show (if eqB o ⟨#[45]⟩=true∧x=a∧y=b then z else fndM (mixL.drop (i+1)) ⟨#[45]⟩ a b)=D from by
    rw [← EH.out,List.drop_eq_getElem_cons (show i<mixL.length from q)]
    rw [List.getElem?_eq_getElem (show i<mixL.length from q)] at hx
    injection hx with hx
    rw [hx]
    rfl)
   have ix:=IX wr
   have X1:=hid (B4t.new wr 256 (.string o) (.int .i64 x) (.int .i64 y) (.int .i64 z))
   have B1:=hid (nextB BW.out (show Below wr.heap.size wr (wr.alloc (.cells #[.string o,.int .i64 x,.int .i64 y,.int .i64 z] 256)) from (Below.refl _ _).alloc (Nat.le_refl _) _))
   clear hx EH IX
   go_upto_region 8 with fail
   clear ix
   generalize World.alloc wr _=w1 at *
   generalize wr.heap.size=bb at *
   obtain ⟨c0,c1,c2,c3⟩:=X1.out
   cases y1:eqB o ⟨#[45]⟩ with
   | false =>
    have z1:(o.toList==[45])=false:=(eqL _ _).trans y1
    have FF:=hid (show fndM (mixL.drop (i+1)) ⟨#[45]⟩ a b=D from by rw [← SE.out,y1];simp)
    clear y1 SE
    go_wp2_with fail
    go_roundg (10 - (i+1))
    case measure=>omega
    case rel=>exact ⟨i+1,by omega,rfl,by rw [Int.natCast_add];rfl,B1.out,FF.out⟩
   | true =>
    have z1:(o.toList==[45])=true:=(eqL _ _).trans y1
    by_cases y2:x=a
    ·have z2:(x==a)=true:=by simpa using y2
     by_cases y3:y=b
     ·have z3:(y==b)=true:=by simpa using y3
      have FF:=hid (show z=D from by rw [← SE.out,if_pos ⟨y1,y2,y3⟩])
      clear y1 y2 y3 SE
      go_wp2_with fail
      go_returns
      exact ⟨by rw [FF.out];rfl,B1.out⟩
     ·have z3:(y==b)=false:=beqI _ _ y3
      have FF:=hid (show fndM (mixL.drop (i+1)) ⟨#[45]⟩ a b=D from by rw [← SE.out,if_neg (fun h=>y3 h.2.2)])
      clear y1 y2 y3 SE
      go_wp2_with fail
      go_roundg (10 - (i+1))
      case measure=>omega
      case rel=>exact ⟨i+1,by omega,rfl,by rw [Int.natCast_add];rfl,B1.out,FF.out⟩
    ·have z2:(x==a)=false:=beqI _ _ y2
     have FF:=hid (show fndM (mixL.drop (i+1)) ⟨#[45]⟩ a b=D from by rw [← SE.out,if_neg (fun h=>y2 h.2.1)])
     clear y1 y2 SE
     go_wp2_with fail
     go_roundg (10 - (i+1))
     case measure=>omega
     case rel=>exact ⟨i+1,by omega,rfl,by rw [Int.natCast_add];rfl,B1.out,FF.out⟩
  ·have q':¬ (i:Int)<10:=by omega
   have FF:D=0:=by rw [← EH.out,List.drop_eq_nil_of_le (by show 10≤i;omega)];rfl
   subst FF
   go_wp2_with fail
   go_returns
   exact ⟨rfl,BW.out⟩
set_option maxRecDepth 100000 in
set_option maxHeartbeats 4000000 in
theorem reck_sub_no (a b:Int) (w:World) (h:TabM w) (hne:(a==b)=true) (ha:amt a=false):Calls Tryz.prog 210 #[.string ⟨#[45]⟩,.int .i64 a,.int .i64 b] w fun e w'=>e=.returned (.int .i64 (fndM mixL ⟨#[45]⟩ a b))∧Below w.heap.size w w':=by
 have HT:=hid h
 obtain ⟨D,hD⟩:∃ D,fndM mixL ⟨#[45]⟩ a b=D:=⟨_,rfl⟩
 have DH:=hid (show fndM (mixL.drop 0) ⟨#[45]⟩ a b=D from hD)
 rw [hD]
 clear h hD
 have K:=hid (amount_any a)
 rw [ha] at K
 clear ha
 go_enter Tryz.func210,Tryz.ntmps210
 go_upto_region 5 with (go_at_call 209;with_reducible refine Calls.mono (K.out _) ?_;rintro e w2 ⟨rfl,rfl⟩)
 go_wp2_with (refine wpList_mix rfl rfl HT.out ?_)
 have TA:=hid (rfl:mixA=mixA)
 generalize hmA:mixA=mA at *
 go_loopg [34,6,8] (10) (fun g iv rv bv wr=>∃ i:Nat,i≤10∧g=10 - i∧iv=.int .i64 (i:Nat)∧Hid (Below w.heap.size w wr)∧Hid (fndM (mixL.drop i) ⟨#[45]⟩ a b=D))
 case atStart=>exact ⟨0,by omega,rfl,rfl,Below.refl _ _,DH.out⟩
 case round =>
  obtain ⟨i,hi,rfl,rfl,BW,EH⟩:=hrel
  by_cases q:i<10
  ·have q':(i:Int)<10:=by omega
   obtain ⟨⟨o,x,y,z⟩,hx⟩:∃ x,mixL[i]?=some x:=⟨_,List.getElem?_eq_getElem (by show i<10;exact q)⟩
   have IX:=idx_mix i _ hx
   rw [hmA] at IX
   dsimp only at IX
   have SE:=hid (show (if eqB o ⟨#[45]⟩=true∧x=a∧y=b then z else fndM (mixL.drop (i+1)) ⟨#[45]⟩ a b)=D from by
    rw [← EH.out,List.drop_eq_getElem_cons (show i<mixL.length from q)]
    rw [List.getElem?_eq_getElem (show i<mixL.length from q)] at hx
    injection hx with hx
    rw [hx]
    rfl)
   have ix:=IX wr
   have X1:=hid (B4t.new wr 256 (.string o) (.int .i64 x) (.int .i64 y) (.int .i64 z))
   have B1:=hid (nextB BW.out (show Below wr.heap.size wr (wr.alloc (.cells #[.string o,.int .i64 x,.int .i64 y,.int .i64 z] 256)) from (Below.refl _ _).alloc (Nat.le_refl _) _))
   clear hx EH IX
   go_upto_region 8 with fail
   clear ix
   generalize World.alloc wr _=w1 at *
   generalize wr.heap.size=bb at *
   obtain ⟨c0,c1,c2,c3⟩:=X1.out
   cases y1:eqB o ⟨#[45]⟩ with
   | false =>
    have z1:(o.toList==[45])=false:=(eqL _ _).trans y1
    have FF:=hid (show fndM (mixL.drop (i+1)) ⟨#[45]⟩ a b=D from by rw [← SE.out,y1];simp)
    clear y1 SE
    go_wp2_with fail
    go_roundg (10 - (i+1))
    case measure=>omega
    case rel=>exact ⟨i+1,by omega,rfl,by rw [Int.natCast_add];rfl,B1.out,FF.out⟩
   | true =>
    have z1:(o.toList==[45])=true:=(eqL _ _).trans y1
    by_cases y2:x=a
    ·have z2:(x==a)=true:=by simpa using y2
     by_cases y3:y=b
     ·have z3:(y==b)=true:=by simpa using y3
      have FF:=hid (show z=D from by rw [← SE.out,if_pos ⟨y1,y2,y3⟩])
      clear y1 y2 y3 SE
      go_wp2_with fail
      go_returns
      exact ⟨by rw [FF.out];rfl,B1.out⟩
     ·have z3:(y==b)=false:=beqI _ _ y3
      have FF:=hid (show fndM (mixL.drop (i+1)) ⟨#[45]⟩ a b=D from by rw [← SE.out,if_neg (fun h=>y3 h.2.2)])
      clear y1 y2 y3 SE
      go_wp2_with fail
      go_roundg (10 - (i+1))
      case measure=>omega
      case rel=>exact ⟨i+1,by omega,rfl,by rw [Int.natCast_add];rfl,B1.out,FF.out⟩
    ·have z2:(x==a)=false:=beqI _ _ y2
     have FF:=hid (show fndM (mixL.drop (i+1)) ⟨#[45]⟩ a b=D from by rw [← SE.out,if_neg (fun h=>y2 h.2.1)])
     clear y1 y2 SE
     go_wp2_with fail
     go_roundg (10 - (i+1))
     case measure=>omega
     case rel=>exact ⟨i+1,by omega,rfl,by rw [Int.natCast_add];rfl,B1.out,FF.out⟩
  ·have q':¬ (i:Int)<10:=by omega
   have FF:D=0:=by rw [← EH.out,List.drop_eq_nil_of_le (by show 10≤i;omega)];rfl
   subst FF
   go_wp2_with fail
   go_returns
   exact ⟨rfl,BW.out⟩
set_option maxRecDepth 100000 in
theorem reck_sub_yes (a b:Int) (w:World) (hne:(a==b)=true) (ha:amt a=true):Calls Tryz.prog 210 #[.string ⟨#[45]⟩,.int .i64 a,.int .i64 b] w fun e w'=>e=.returned (.int .i64 a)∧Below w.heap.size w w':=by
 have K:=hid (amount_any a)
 rw [ha] at K
 clear ha
 go_enter Tryz.func210,Tryz.ntmps210
 go_wp2_with (go_at_call 209;with_reducible refine Calls.mono (K.out _) ?_;rintro e w2 ⟨rfl,rfl⟩)
 go_returns
 exact ⟨rfl,Below.refl _ _⟩
set_option maxRecDepth 100000 in
set_option maxHeartbeats 4000000 in
theorem reck_mul_lt (a b:Int) (w:World) (h:TabM w) (hlt:a<b):Calls Tryz.prog 210 #[.string ⟨#[42]⟩,.int .i64 a,.int .i64 b] w fun e w'=>e=.returned (.int .i64 (fndM mixL ⟨#[42]⟩ b a))∧Below w.heap.size w w':=by
 have HT:=hid h
 obtain ⟨D,hD⟩:∃ D,fndM mixL ⟨#[42]⟩ b a=D:=⟨_,rfl⟩
 have DH:=hid (show fndM (mixL.drop 0) ⟨#[42]⟩ b a=D from hD)
 rw [hD]
 clear h hD
 go_enter Tryz.func210,Tryz.ntmps210
 go_upto_region 5 with fail
 go_wp2_with (refine wpList_mix rfl rfl HT.out ?_)
 have TA:=hid (rfl:mixA=mixA)
 generalize hmA:mixA=mA at *
 go_loopg [34,6,8] (10) (fun g iv rv bv wr=>∃ i:Nat,i≤10∧g=10 - i∧iv=.int .i64 (i:Nat)∧Hid (Below w.heap.size w wr)∧Hid (fndM (mixL.drop i) ⟨#[42]⟩ b a=D))
 case atStart=>exact ⟨0,by omega,rfl,rfl,Below.refl _ _,DH.out⟩
 case round =>
  obtain ⟨i,hi,rfl,rfl,BW,EH⟩:=hrel
  by_cases q:i<10
  ·have q':(i:Int)<10:=by omega
   obtain ⟨⟨o,x,y,z⟩,hx⟩:∃ x,mixL[i]?=some x:=⟨_,List.getElem?_eq_getElem (by show i<10;exact q)⟩
   have IX:=idx_mix i _ hx
   rw [hmA] at IX
   dsimp only at IX
   have SE:=hid (show (if eqB o ⟨#[42]⟩=true∧x=b∧y=a then z else fndM (mixL.drop (i+1)) ⟨#[42]⟩ b a)=D from by
    rw [← EH.out,List.drop_eq_getElem_cons (show i<mixL.length from q)]
    rw [List.getElem?_eq_getElem (show i<mixL.length from q)] at hx
    injection hx with hx
    rw [hx]
    rfl)
   have ix:=IX wr
   have X1:=hid (B4t.new wr 256 (.string o) (.int .i64 x) (.int .i64 y) (.int .i64 z))
   have B1:=hid (nextB BW.out (show Below wr.heap.size wr (wr.alloc (.cells #[.string o,.int .i64 x,.int .i64 y,.int .i64 z] 256)) from (Below.refl _ _).alloc (Nat.le_refl _) _))
   clear hx EH IX
   go_upto_region 8 with fail
   clear ix
   generalize World.alloc wr _=w1 at *
   generalize wr.heap.size=bb at *
   obtain ⟨c0,c1,c2,c3⟩:=X1.out
   cases y1:eqB o ⟨#[42]⟩ with
   | false =>
    have z1:(o.toList==[42])=false:=(eqL _ _).trans y1
    have FF:=hid (show fndM (mixL.drop (i+1)) ⟨#[42]⟩ b a=D from by rw [← SE.out,y1];simp)
    clear y1 SE
    go_wp2_with fail
    go_roundg (10 - (i+1))
    case measure=>omega
    case rel=>exact ⟨i+1,by omega,rfl,by rw [Int.natCast_add];rfl,B1.out,FF.out⟩
   | true =>
    have z1:(o.toList==[42])=true:=(eqL _ _).trans y1
    by_cases y2:x=b
    ·have z2:(x==b)=true:=by simpa using y2
     by_cases y3:y=a
     ·have z3:(y==a)=true:=by simpa using y3
      have FF:=hid (show z=D from by rw [← SE.out,if_pos ⟨y1,y2,y3⟩])
      clear y1 y2 y3 SE
      go_wp2_with fail
      go_returns
      exact ⟨by rw [FF.out];rfl,B1.out⟩
     ·have z3:(y==a)=false:=beqI _ _ y3
      have FF:=hid (show fndM (mixL.drop (i+1)) ⟨#[42]⟩ b a=D from by rw [← SE.out,if_neg (fun h=>y3 h.2.2)])
      clear y1 y2 y3 SE
      go_wp2_with fail
      go_roundg (10 - (i+1))
      case measure=>omega
      case rel=>exact ⟨i+1,by omega,rfl,by rw [Int.natCast_add];rfl,B1.out,FF.out⟩
    ·have z2:(x==b)=false:=beqI _ _ y2
     have FF:=hid (show fndM (mixL.drop (i+1)) ⟨#[42]⟩ b a=D from by rw [← SE.out,if_neg (fun h=>y2 h.2.1)])
     clear y1 y2 SE
     go_wp2_with fail
     go_roundg (10 - (i+1))
     case measure=>omega
     case rel=>exact ⟨i+1,by omega,rfl,by rw [Int.natCast_add];rfl,B1.out,FF.out⟩
  ·have q':¬ (i:Int)<10:=by omega
   have FF:D=0:=by rw [← EH.out,List.drop_eq_nil_of_le (by show 10≤i;omega)];rfl
   subst FF
   go_wp2_with fail
   go_returns
   exact ⟨rfl,BW.out⟩
set_option maxRecDepth 100000 in
set_option maxHeartbeats 4000000 in
theorem reck_mul_ge (a b:Int) (w:World) (h:TabM w) (hlt:¬ a<b) (hgt:b<a):Calls Tryz.prog 210 #[.string ⟨#[42]⟩,.int .i64 a,.int .i64 b] w fun e w'=>e=.returned (.int .i64 (fndM mixL ⟨#[42]⟩ a b))∧Below w.heap.size w w':=by
 have HT:=hid h
 obtain ⟨D,hD⟩:∃ D,fndM mixL ⟨#[42]⟩ a b=D:=⟨_,rfl⟩
 have DH:=hid (show fndM (mixL.drop 0) ⟨#[42]⟩ a b=D from hD)
 rw [hD]
 clear h hD
 go_enter Tryz.func210,Tryz.ntmps210
 go_upto_region 5 with fail
 go_wp2_with (refine wpList_mix rfl rfl HT.out ?_)
 have TA:=hid (rfl:mixA=mixA)
 generalize hmA:mixA=mA at *
 go_loopg [34,6,8] (10) (fun g iv rv bv wr=>∃ i:Nat,i≤10∧g=10 - i∧iv=.int .i64 (i:Nat)∧Hid (Below w.heap.size w wr)∧Hid (fndM (mixL.drop i) ⟨#[42]⟩ a b=D))
 case atStart=>exact ⟨0,by omega,rfl,rfl,Below.refl _ _,DH.out⟩
 case round =>
  obtain ⟨i,hi,rfl,rfl,BW,EH⟩:=hrel
  by_cases q:i<10
  ·have q':(i:Int)<10:=by omega
   obtain ⟨⟨o,x,y,z⟩,hx⟩:∃ x,mixL[i]?=some x:=⟨_,List.getElem?_eq_getElem (by show i<10;exact q)⟩
   have IX:=idx_mix i _ hx
   rw [hmA] at IX
   dsimp only at IX
   have SE:=hid (show (if eqB o ⟨#[42]⟩=true∧x=a∧y=b then z else fndM (mixL.drop (i+1)) ⟨#[42]⟩ a b)=D from by
    rw [← EH.out,List.drop_eq_getElem_cons (show i<mixL.length from q)]
    rw [List.getElem?_eq_getElem (show i<mixL.length from q)] at hx
    injection hx with hx
    rw [hx]
    rfl)
   have ix:=IX wr
   have X1:=hid (B4t.new wr 256 (.string o) (.int .i64 x) (.int .i64 y) (.int .i64 z))
   have B1:=hid (nextB BW.out (show Below wr.heap.size wr (wr.alloc (.cells #[.string o,.int .i64 x,.int .i64 y,.int .i64 z] 256)) from (Below.refl _ _).alloc (Nat.le_refl _) _))
   clear hx EH IX
   go_upto_region 8 with fail
   clear ix
   generalize World.alloc wr _=w1 at *
   generalize wr.heap.size=bb at *
   obtain ⟨c0,c1,c2,c3⟩:=X1.out
   cases y1:eqB o ⟨#[42]⟩ with
   | false =>
    have z1:(o.toList==[42])=false:=(eqL _ _).trans y1
    have FF:=hid (show fndM (mixL.drop (i+1)) ⟨#[42]⟩ a b=D from by rw [← SE.out,y1];simp)
    clear y1 SE
    go_wp2_with fail
    go_roundg (10 - (i+1))
    case measure=>omega
    case rel=>exact ⟨i+1,by omega,rfl,by rw [Int.natCast_add];rfl,B1.out,FF.out⟩
   | true =>
    have z1:(o.toList==[42])=true:=(eqL _ _).trans y1
    by_cases y2:x=a
    ·have z2:(x==a)=true:=by simpa using y2
     by_cases y3:y=b
     ·have z3:(y==b)=true:=by simpa using y3
      have FF:=hid (show z=D from by rw [← SE.out,if_pos ⟨y1,y2,y3⟩])
      clear y1 y2 y3 SE
      go_wp2_with fail
      go_returns
      exact ⟨by rw [FF.out];rfl,B1.out⟩
     ·have z3:(y==b)=false:=beqI _ _ y3
      have FF:=hid (show fndM (mixL.drop (i+1)) ⟨#[42]⟩ a b=D from by rw [← SE.out,if_neg (fun h=>y3 h.2.2)])
      clear y1 y2 y3 SE
      go_wp2_with fail
      go_roundg (10 - (i+1))
      case measure=>omega
      case rel=>exact ⟨i+1,by omega,rfl,by rw [Int.natCast_add];rfl,B1.out,FF.out⟩
    ·have z2:(x==a)=false:=beqI _ _ y2
     have FF:=hid (show fndM (mixL.drop (i+1)) ⟨#[42]⟩ a b=D from by rw [← SE.out,if_neg (fun h=>y2 h.2.1)])
     clear y1 y2 SE
     go_wp2_with fail
     go_roundg (10 - (i+1))
     case measure=>omega
     case rel=>exact ⟨i+1,by omega,rfl,by rw [Int.natCast_add];rfl,B1.out,FF.out⟩
  ·have q':¬ (i:Int)<10:=by omega
   have FF:D=0:=by rw [← EH.out,List.drop_eq_nil_of_le (by show 10≤i;omega)];rfl
   subst FF
   go_wp2_with fail
   go_returns
   exact ⟨rfl,BW.out⟩
set_option maxRecDepth 100000 in
set_option maxHeartbeats 4000000 in
theorem reck_mul_eq (a b:Int) (w:World) (h:TabM w) (hlt:a=b):Calls Tryz.prog 210 #[.string ⟨#[42]⟩,.int .i64 a,.int .i64 b] w fun e w'=>e=.returned (.int .i64 (fndM mixL ⟨#[42]⟩ a a))∧Below w.heap.size w w':=by
 have HT:=hid h
 obtain ⟨D,hD⟩:∃ D,fndM mixL ⟨#[42]⟩ a a=D:=⟨_,rfl⟩
 have DH:=hid (show fndM (mixL.drop 0) ⟨#[42]⟩ a a=D from hD)
 rw [hD]
 clear h hD
 subst hlt
 go_enter Tryz.func210,Tryz.ntmps210
 go_upto_region 5 with fail
 go_wp2_with (refine wpList_mix rfl rfl HT.out ?_)
 have TA:=hid (rfl:mixA=mixA)
 generalize hmA:mixA=mA at *
 go_loopg [34,6,8] (10) (fun g iv rv bv wr=>∃ i:Nat,i≤10∧g=10 - i∧iv=.int .i64 (i:Nat)∧Hid (Below w.heap.size w wr)∧Hid (fndM (mixL.drop i) ⟨#[42]⟩ a a=D))
 case atStart=>exact ⟨0,by omega,rfl,rfl,Below.refl _ _,DH.out⟩
 case round =>
  obtain ⟨i,hi,rfl,rfl,BW,EH⟩:=hrel
  by_cases q:i<10
  ·have q':(i:Int)<10:=by omega
   obtain ⟨⟨o,x,y,z⟩,hx⟩:∃ x,mixL[i]?=some x:=⟨_,List.getElem?_eq_getElem (by show i<10;exact q)⟩
   have IX:=idx_mix i _ hx
   rw [hmA] at IX
   dsimp only at IX
   have SE:=hid (show (if eqB o ⟨#[42]⟩=true∧x=a∧y=a then z else fndM (mixL.drop (i+1)) ⟨#[42]⟩ a a)=D from by
    rw [← EH.out,List.drop_eq_getElem_cons (show i<mixL.length from q)]
    rw [List.getElem?_eq_getElem (show i<mixL.length from q)] at hx
    injection hx with hx
    rw [hx]
    rfl)
   have ix:=IX wr
   have X1:=hid (B4t.new wr 256 (.string o) (.int .i64 x) (.int .i64 y) (.int .i64 z))
   have B1:=hid (nextB BW.out (show Below wr.heap.size wr (wr.alloc (.cells #[.string o,.int .i64 x,.int .i64 y,.int .i64 z] 256)) from (Below.refl _ _).alloc (Nat.le_refl _) _))
   clear hx EH IX
   go_upto_region 8 with fail
   clear ix
   generalize World.alloc wr _=w1 at *
   generalize wr.heap.size=bb at *
   obtain ⟨c0,c1,c2,c3⟩:=X1.out
   cases y1:eqB o ⟨#[42]⟩ with
   | false =>
    have z1:(o.toList==[42])=false:=(eqL _ _).trans y1
    have FF:=hid (show fndM (mixL.drop (i+1)) ⟨#[42]⟩ a a=D from by rw [← SE.out,y1];simp)
    clear y1 SE
    go_wp2_with fail
    go_roundg (10 - (i+1))
    case measure=>omega
    case rel=>exact ⟨i+1,by omega,rfl,by rw [Int.natCast_add];rfl,B1.out,FF.out⟩
   | true =>
    have z1:(o.toList==[42])=true:=(eqL _ _).trans y1
    by_cases y2:x=a
    ·have z2:(x==a)=true:=by simpa using y2
     by_cases y3:y=a
     ·have z3:(y==a)=true:=by simpa using y3
      have FF:=hid (show z=D from by rw [← SE.out,if_pos ⟨y1,y2,y3⟩])
      clear y1 y2 y3 SE
      go_wp2_with fail
      go_returns
      exact ⟨by rw [FF.out];rfl,B1.out⟩
     ·have z3:(y==a)=false:=beqI _ _ y3
      have FF:=hid (show fndM (mixL.drop (i+1)) ⟨#[42]⟩ a a=D from by rw [← SE.out,if_neg (fun h=>y3 h.2.2)])
      clear y1 y2 y3 SE
      go_wp2_with fail
      go_roundg (10 - (i+1))
      case measure=>omega
      case rel=>exact ⟨i+1,by omega,rfl,by rw [Int.natCast_add];rfl,B1.out,FF.out⟩
    ·have z2:(x==a)=false:=beqI _ _ y2
     have FF:=hid (show fndM (mixL.drop (i+1)) ⟨#[42]⟩ a a=D from by rw [← SE.out,if_neg (fun h=>y2 h.2.1)])
     clear y1 y2 SE
     go_wp2_with fail
     go_roundg (10 - (i+1))
     case measure=>omega
     case rel=>exact ⟨i+1,by omega,rfl,by rw [Int.natCast_add];rfl,B1.out,FF.out⟩
  ·have q':¬ (i:Int)<10:=by omega
   have FF:D=0:=by rw [← EH.out,List.drop_eq_nil_of_le (by show 10≤i;omega)];rfl
   subst FF
   go_wp2_with fail
   go_returns
   exact ⟨rfl,BW.out⟩
theorem fnd_add (a b:Int) (h:¬ (a=b∧2≤a∧a≤4)):fndM mixL ⟨#[43]⟩ a b=binK ⟨#[43]⟩ a b:=by
 rw [show binK ⟨#[43]⟩ a b=(if (a=b∧2≤a∧a≤4)∨(a=5∧b=2) then a else 0) from rfl]
 rw [show fndM mixL ⟨#[43]⟩ a b=(if (5:Int)=a∧(2:Int)=b then 5 else 0) from by simp [fndM,mixL,eqB]]
 repeat' split
 all_goals omega
theorem fnd_sub (a b:Int) (h:¬ (a=b∧2≤a∧a≤4)):fndM mixL ⟨#[45]⟩ a b=binK ⟨#[45]⟩ a b:=by
 rw [show binK ⟨#[45]⟩ a b=(if (a=b∧2≤a∧a≤4)∨(a=5∧b=2) then a else if a=5∧b=5 then 2 else 0) from rfl]
 rw [show fndM mixL ⟨#[45]⟩ a b=(if (5:Int)=a∧(5:Int)=b then 2 else if (5:Int)=a∧(2:Int)=b then 5 else 0) from by simp [fndM,mixL,eqB]]
 repeat' split
 all_goals omega
theorem fnd_div (a b:Int):fndM mixL ⟨#[47]⟩ a b=binK ⟨#[47]⟩ a b:=by
 rw [show binK ⟨#[47]⟩ a b=(if b=2∧(a=2∨a=3) then a else if a=3∧b=3 then 4 else 0) from rfl]
 rw [show fndM mixL ⟨#[47]⟩ a b=(if (2:Int)=a∧(2:Int)=b then 2 else if (3:Int)=a∧(2:Int)=b then 3 else if (3:Int)=a∧(3:Int)=b then 4 else 0) from by simp [fndM,mixL,eqB]]
 repeat' split
 all_goals omega
theorem fnd_mul (a b:Int):fndM mixL ⟨#[42]⟩ a b=(if (2:Int)=a∧(2:Int)=b then 2 else if (3:Int)=a∧(2:Int)=b then 3 else if (4:Int)=a∧(2:Int)=b then 4 else if (4:Int)=a∧(3:Int)=b then 3 else 0):=by simp [fndM,mixL,eqB]
theorem bin_mul (a b:Int):binK ⟨#[42]⟩ a b=(if a > b then (if b=2∧2≤a∧a≤4 then a else if b=3∧a=4 then 3 else 0) else (if a=2∧2≤b∧b≤4 then b else if a=3∧b=4 then 3 else 0)):=rfl
def ops4:List ByteArray:=[⟨#[43]⟩,⟨#[45]⟩,⟨#[42]⟩,⟨#[47]⟩]
theorem reck_any (op:ByteArray) (ho:op ∈ ops4) (a b:Int) (w:World) (h:TabM w):Calls Tryz.prog 210 #[.string op,.int .i64 a,.int .i64 b] w fun e w'=>e=.returned (.int .i64 (binK op a b))∧Below w.heap.size w w':=by
 simp only [ops4,List.mem_cons,List.not_mem_nil,or_false] at ho
 rcases ho with rfl | rfl | rfl | rfl
 ·by_cases q:a=b
  ·cases y:amt a with
   | true =>
    have:=reck_add_yes a b w (by simpa using q) y
    rw [show binK ⟨#[43]⟩ a b=a from if_pos (Or.inl ⟨q,by unfold amt at y;simpa using y⟩)]
    exact this
   | false =>
    rw [← fnd_add a b (fun z=>by unfold amt at y;simp at y;omega)]
    exact reck_add_no a b w h (by simpa using q) y
  ·rw [← fnd_add a b (fun z=>q z.1)]
   exact reck_add_ne a b w h (beqI _ _ q)
 ·by_cases q:a=b
  ·cases y:amt a with
   | true =>
    have:=reck_sub_yes a b w (by simpa using q) y
    rw [show binK ⟨#[45]⟩ a b=a from if_pos (Or.inl ⟨q,by unfold amt at y;simpa using y⟩)]
    exact this
   | false =>
    rw [← fnd_sub a b (fun z=>by unfold amt at y;simp at y;omega)]
    exact reck_sub_no a b w h (by simpa using q) y
  ·rw [← fnd_sub a b (fun z=>q z.1)]
   exact reck_sub_ne a b w h (beqI _ _ q)
 ·rcases Int.lt_trichotomy a b with q | q | q
  ·rw [show binK ⟨#[42]⟩ a b=fndM mixL ⟨#[42]⟩ b a from by rw [fnd_mul,bin_mul];repeat' split;all_goals omega]
   exact reck_mul_lt a b w h q
  ·rw [show binK ⟨#[42]⟩ a b=fndM mixL ⟨#[42]⟩ a a from by rw [fnd_mul,bin_mul];repeat' split;all_goals omega]
   exact reck_mul_eq a b w h q
  ·rw [show binK ⟨#[42]⟩ a b=fndM mixL ⟨#[42]⟩ a b from by rw [fnd_mul,bin_mul];repeat' split;all_goals omega]
   exact reck_mul_ge a b w h (by omega) q
 ·rw [← fnd_div]
  exact reck_div a b w h
set_option maxRecDepth 100000 in
set_option maxHeartbeats 4000000 in
theorem two_0 (a b:Int) (w:World) (h:TabM w):Calls Tryz.prog 201 #[.string ⟨#[43]⟩,.int .i64 a,.int .i64 b] w fun e w'=>e=.returned (.int .i64 (binK ⟨#[43]⟩ a b))∧Below w.heap.size w w':=by
 have K:=hid (reck_any ⟨#[43]⟩ (by simp [ops4]) a b w h)
 generalize binK ⟨#[43]⟩ a b=D at *
 clear h
 go_enter Tryz.func201,Tryz.ntmps201
 go_wp2_with (go_at_call 210;with_reducible refine Calls.mono K.out ?_;rintro e w2 ⟨rfl,b2⟩;have B2:=hid b2;clear b2)
 go_returns
 exact ⟨rfl,B2.out⟩
set_option maxRecDepth 100000 in
set_option maxHeartbeats 4000000 in
theorem two_1 (a b:Int) (w:World) (h:TabM w):Calls Tryz.prog 201 #[.string ⟨#[45]⟩,.int .i64 a,.int .i64 b] w fun e w'=>e=.returned (.int .i64 (binK ⟨#[45]⟩ a b))∧Below w.heap.size w w':=by
 have K:=hid (reck_any ⟨#[45]⟩ (by simp [ops4]) a b w h)
 generalize binK ⟨#[45]⟩ a b=D at *
 clear h
 go_enter Tryz.func201,Tryz.ntmps201
 go_wp2_with (go_at_call 210;with_reducible refine Calls.mono K.out ?_;rintro e w2 ⟨rfl,b2⟩;have B2:=hid b2;clear b2)
 go_returns
 exact ⟨rfl,B2.out⟩
set_option maxRecDepth 100000 in
set_option maxHeartbeats 4000000 in
theorem two_2 (a b:Int) (w:World) (h:TabM w):Calls Tryz.prog 201 #[.string ⟨#[42]⟩,.int .i64 a,.int .i64 b] w fun e w'=>e=.returned (.int .i64 (binK ⟨#[42]⟩ a b))∧Below w.heap.size w w':=by
 have K:=hid (reck_any ⟨#[42]⟩ (by simp [ops4]) a b w h)
 generalize binK ⟨#[42]⟩ a b=D at *
 clear h
 go_enter Tryz.func201,Tryz.ntmps201
 go_wp2_with (go_at_call 210;with_reducible refine Calls.mono K.out ?_;rintro e w2 ⟨rfl,b2⟩;have B2:=hid b2;clear b2)
 go_returns
 exact ⟨rfl,B2.out⟩
set_option maxRecDepth 100000 in
set_option maxHeartbeats 4000000 in
theorem two_3 (a b:Int) (w:World) (h:TabM w):Calls Tryz.prog 201 #[.string ⟨#[47]⟩,.int .i64 a,.int .i64 b] w fun e w'=>e=.returned (.int .i64 (binK ⟨#[47]⟩ a b))∧Below w.heap.size w w':=by
 have K:=hid (reck_any ⟨#[47]⟩ (by simp [ops4]) a b w h)
 generalize binK ⟨#[47]⟩ a b=D at *
 clear h
 go_enter Tryz.func201,Tryz.ntmps201
 go_wp2_with (go_at_call 210;with_reducible refine Calls.mono K.out ?_;rintro e w2 ⟨rfl,b2⟩;have B2:=hid b2;clear b2)
 go_returns
 exact ⟨rfl,B2.out⟩
set_option maxRecDepth 100000 in
set_option maxHeartbeats 4000000 in
theorem two_4 (a b:Int) (w:World) (h:TabM w):Calls Tryz.prog 201 #[.string ⟨#[60]⟩,.int .i64 a,.int .i64 b] w fun e w'=>e=.returned (.int .i64 (binK ⟨#[60]⟩ a b))∧Below w.heap.size w w':=by
 obtain ⟨D,hD⟩:∃ D,binK ⟨#[60]⟩ a b=D:=⟨_,rfl⟩
 have DH:=hid (show (if a=b∧2≤a∧a≤5 then 1 else 0)=D from hD)
 rw [hD]
 clear hD
 have KR:=hid (ranked_any a)
 have KO:=hid only_any
 clear h
 by_cases q:a=b
 ·have z:(a==b)=true:=by simpa using q
  cases y:rnk a with
  | true =>
   rw [y] at KR
   have Y:=hid y
   have Q:=hid q
   clear y q
   go_enter Tryz.func201,Tryz.ntmps201
   go_wp2_with (first | (go_at_call 211;with_reducible refine Calls.mono (KR.out _) ?_;rintro e w2 ⟨rfl,rfl⟩) | (go_at_call 208;with_reducible refine Calls.mono (KO.out _ _ _) ?_;rintro e w2 ⟨rfl,rfl⟩))
   go_returns
   exact ⟨by rw [← DH.out,if_pos ⟨Q.out,by have:=Y.out;unfold rnk at this;simp at this;omega⟩];rfl,Below.refl _ _⟩
  | false =>
   rw [y] at KR
   have Y:=hid y
   have Q:=hid q
   clear y q
   go_enter Tryz.func201,Tryz.ntmps201
   go_wp2_with (first | (go_at_call 211;with_reducible refine Calls.mono (KR.out _) ?_;rintro e w2 ⟨rfl,rfl⟩) | (go_at_call 208;with_reducible refine Calls.mono (KO.out _ _ _) ?_;rintro e w2 ⟨rfl,rfl⟩))
   go_returns
   exact ⟨by rw [← DH.out,if_neg (fun e=>by have:=Y.out;unfold rnk at this;simp at this;omega)];rfl,Below.refl _ _⟩
 ·have z:(a==b)=false:=beqI _ _ q
  have Q:=hid q
  clear q
  go_enter Tryz.func201,Tryz.ntmps201
  go_wp2_with (first | (go_at_call 211;with_reducible refine Calls.mono (KR.out _) ?_;rintro e w2 ⟨rfl,rfl⟩) | (go_at_call 208;with_reducible refine Calls.mono (KO.out _ _ _) ?_;rintro e w2 ⟨rfl,rfl⟩))
  go_returns
  exact ⟨by rw [← DH.out,if_neg (fun e=>Q.out (by omega))];rfl,Below.refl _ _⟩
set_option maxRecDepth 100000 in
set_option maxHeartbeats 4000000 in
theorem two_5 (a b:Int) (w:World) (h:TabM w):Calls Tryz.prog 201 #[.string ⟨#[60,61]⟩,.int .i64 a,.int .i64 b] w fun e w'=>e=.returned (.int .i64 (binK ⟨#[60,61]⟩ a b))∧Below w.heap.size w w':=by
 obtain ⟨D,hD⟩:∃ D,binK ⟨#[60,61]⟩ a b=D:=⟨_,rfl⟩
 have DH:=hid (show (if a=b∧2≤a∧a≤5 then 1 else 0)=D from hD)
 rw [hD]
 clear hD
 have KR:=hid (ranked_any a)
 have KO:=hid only_any
 clear h
 by_cases q:a=b
 ·have z:(a==b)=true:=by simpa using q
  cases y:rnk a with
  | true =>
   rw [y] at KR
   have Y:=hid y
   have Q:=hid q
   clear y q
   go_enter Tryz.func201,Tryz.ntmps201
   go_wp2_with (first | (go_at_call 211;with_reducible refine Calls.mono (KR.out _) ?_;rintro e w2 ⟨rfl,rfl⟩) | (go_at_call 208;with_reducible refine Calls.mono (KO.out _ _ _) ?_;rintro e w2 ⟨rfl,rfl⟩))
   go_returns
   exact ⟨by rw [← DH.out,if_pos ⟨Q.out,by have:=Y.out;unfold rnk at this;simp at this;omega⟩];rfl,Below.refl _ _⟩
  | false =>
   rw [y] at KR
   have Y:=hid y
   have Q:=hid q
   clear y q
   go_enter Tryz.func201,Tryz.ntmps201
   go_wp2_with (first | (go_at_call 211;with_reducible refine Calls.mono (KR.out _) ?_;rintro e w2 ⟨rfl,rfl⟩) | (go_at_call 208;with_reducible refine Calls.mono (KO.out _ _ _) ?_;rintro e w2 ⟨rfl,rfl⟩))
   go_returns
   exact ⟨by rw [← DH.out,if_neg (fun e=>by have:=Y.out;unfold rnk at this;simp at this;omega)];rfl,Below.refl _ _⟩
 ·have z:(a==b)=false:=beqI _ _ q
  have Q:=hid q
  clear q
  go_enter Tryz.func201,Tryz.ntmps201
  go_wp2_with (first | (go_at_call 211;with_reducible refine Calls.mono (KR.out _) ?_;rintro e w2 ⟨rfl,rfl⟩) | (go_at_call 208;with_reducible refine Calls.mono (KO.out _ _ _) ?_;rintro e w2 ⟨rfl,rfl⟩))
  go_returns
  exact ⟨by rw [← DH.out,if_neg (fun e=>Q.out (by omega))];rfl,Below.refl _ _⟩
set_option maxRecDepth 100000 in
set_option maxHeartbeats 4000000 in
theorem two_6 (a b:Int) (w:World) (h:TabM w):Calls Tryz.prog 201 #[.string ⟨#[62]⟩,.int .i64 a,.int .i64 b] w fun e w'=>e=.returned (.int .i64 (binK ⟨#[62]⟩ a b))∧Below w.heap.size w w':=by
 obtain ⟨D,hD⟩:∃ D,binK ⟨#[62]⟩ a b=D:=⟨_,rfl⟩
 have DH:=hid (show (if a=b∧2≤a∧a≤5 then 1 else 0)=D from hD)
 rw [hD]
 clear hD
 have KR:=hid (ranked_any a)
 have KO:=hid only_any
 clear h
 by_cases q:a=b
 ·have z:(a==b)=true:=by simpa using q
  cases y:rnk a with
  | true =>
   rw [y] at KR
   have Y:=hid y
   have Q:=hid q
   clear y q
   go_enter Tryz.func201,Tryz.ntmps201
   go_wp2_with (first | (go_at_call 211;with_reducible refine Calls.mono (KR.out _) ?_;rintro e w2 ⟨rfl,rfl⟩) | (go_at_call 208;with_reducible refine Calls.mono (KO.out _ _ _) ?_;rintro e w2 ⟨rfl,rfl⟩))
   go_returns
   exact ⟨by rw [← DH.out,if_pos ⟨Q.out,by have:=Y.out;unfold rnk at this;simp at this;omega⟩];rfl,Below.refl _ _⟩
  | false =>
   rw [y] at KR
   have Y:=hid y
   have Q:=hid q
   clear y q
   go_enter Tryz.func201,Tryz.ntmps201
   go_wp2_with (first | (go_at_call 211;with_reducible refine Calls.mono (KR.out _) ?_;rintro e w2 ⟨rfl,rfl⟩) | (go_at_call 208;with_reducible refine Calls.mono (KO.out _ _ _) ?_;rintro e w2 ⟨rfl,rfl⟩))
   go_returns
   exact ⟨by rw [← DH.out,if_neg (fun e=>by have:=Y.out;unfold rnk at this;simp at this;omega)];rfl,Below.refl _ _⟩
 ·have z:(a==b)=false:=beqI _ _ q
  have Q:=hid q
  clear q
  go_enter Tryz.func201,Tryz.ntmps201
  go_wp2_with (first | (go_at_call 211;with_reducible refine Calls.mono (KR.out _) ?_;rintro e w2 ⟨rfl,rfl⟩) | (go_at_call 208;with_reducible refine Calls.mono (KO.out _ _ _) ?_;rintro e w2 ⟨rfl,rfl⟩))
  go_returns
  exact ⟨by rw [← DH.out,if_neg (fun e=>Q.out (by omega))];rfl,Below.refl _ _⟩
set_option maxRecDepth 100000 in
set_option maxHeartbeats 4000000 in
theorem two_7 (a b:Int) (w:World) (h:TabM w):Calls Tryz.prog 201 #[.string ⟨#[62,61]⟩,.int .i64 a,.int .i64 b] w fun e w'=>e=.returned (.int .i64 (binK ⟨#[62,61]⟩ a b))∧Below w.heap.size w w':=by
 obtain ⟨D,hD⟩:∃ D,binK ⟨#[62,61]⟩ a b=D:=⟨_,rfl⟩
 have DH:=hid (show (if a=b∧2≤a∧a≤5 then 1 else 0)=D from hD)
 rw [hD]
 clear hD
 have KR:=hid (ranked_any a)
 have KO:=hid only_any
 clear h
 by_cases q:a=b
 ·have z:(a==b)=true:=by simpa using q
  cases y:rnk a with
  | true =>
   rw [y] at KR
   have Y:=hid y
   have Q:=hid q
   clear y q
   go_enter Tryz.func201,Tryz.ntmps201
   go_wp2_with (first | (go_at_call 211;with_reducible refine Calls.mono (KR.out _) ?_;rintro e w2 ⟨rfl,rfl⟩) | (go_at_call 208;with_reducible refine Calls.mono (KO.out _ _ _) ?_;rintro e w2 ⟨rfl,rfl⟩))
   go_returns
   exact ⟨by rw [← DH.out,if_pos ⟨Q.out,by have:=Y.out;unfold rnk at this;simp at this;omega⟩];rfl,Below.refl _ _⟩
  | false =>
   rw [y] at KR
   have Y:=hid y
   have Q:=hid q
   clear y q
   go_enter Tryz.func201,Tryz.ntmps201
   go_wp2_with (first | (go_at_call 211;with_reducible refine Calls.mono (KR.out _) ?_;rintro e w2 ⟨rfl,rfl⟩) | (go_at_call 208;with_reducible refine Calls.mono (KO.out _ _ _) ?_;rintro e w2 ⟨rfl,rfl⟩))
   go_returns
   exact ⟨by rw [← DH.out,if_neg (fun e=>by have:=Y.out;unfold rnk at this;simp at this;omega)];rfl,Below.refl _ _⟩
 ·have z:(a==b)=false:=beqI _ _ q
  have Q:=hid q
  clear q
  go_enter Tryz.func201,Tryz.ntmps201
  go_wp2_with (first | (go_at_call 211;with_reducible refine Calls.mono (KR.out _) ?_;rintro e w2 ⟨rfl,rfl⟩) | (go_at_call 208;with_reducible refine Calls.mono (KO.out _ _ _) ?_;rintro e w2 ⟨rfl,rfl⟩))
  go_returns
  exact ⟨by rw [← DH.out,if_neg (fun e=>Q.out (by omega))];rfl,Below.refl _ _⟩
set_option maxRecDepth 100000 in
set_option maxHeartbeats 4000000 in
theorem two_8 (a b:Int) (w:World) (h:TabM w):Calls Tryz.prog 201 #[.string ⟨#[61,61]⟩,.int .i64 a,.int .i64 b] w fun e w'=>e=.returned (.int .i64 (binK ⟨#[61,61]⟩ a b))∧Below w.heap.size w w':=by
 obtain ⟨D,hD⟩:∃ D,binK ⟨#[61,61]⟩ a b=D:=⟨_,rfl⟩
 have DH:=hid (show (if a=b∧1≤a∧a≤5 then 1 else 0)=D from hD)
 rw [hD]
 clear hD
 have KR:=hid (ranked_any a)
 have KO:=hid only_any
 clear h
 by_cases q:a=b
 ·have z:(a==b)=true:=by simpa using q
  cases y:rnk a with
  | true =>
   rw [y] at KR
   have Y:=hid y
   have Q:=hid q
   clear y q
   go_enter Tryz.func201,Tryz.ntmps201
   go_wp2_with (first | (go_at_call 211;with_reducible refine Calls.mono (KR.out _) ?_;rintro e w2 ⟨rfl,rfl⟩) | (go_at_call 208;with_reducible refine Calls.mono (KO.out _ _ _) ?_;rintro e w2 ⟨rfl,rfl⟩))
   go_returns
   exact ⟨by rw [← DH.out,if_pos ⟨Q.out,by have:=Y.out;unfold rnk at this;simp at this;omega⟩];rfl,Below.refl _ _⟩
  | false =>
   rw [y] at KR
   have Y:=hid y
   have Q:=hid q
   clear y q
   by_cases q1:a=1
   ·have z1:(a==1)=true:=by simpa using q1
    have Q1:=hid q1
    clear q1
    go_enter Tryz.func201,Tryz.ntmps201
    go_wp2_with (first | (go_at_call 211;with_reducible refine Calls.mono (KR.out _) ?_;rintro e w2 ⟨rfl,rfl⟩) | (go_at_call 208;with_reducible refine Calls.mono (KO.out _ _ _) ?_;rintro e w2 ⟨rfl,rfl⟩))
    go_returns
    exact ⟨by rw [← DH.out,if_pos ⟨Q.out,by have:=Q1.out;omega⟩];rfl,Below.refl _ _⟩
   ·have z1:(a==1)=false:=beqI _ _ q1
    have Q1:=hid q1
    clear q1
    go_enter Tryz.func201,Tryz.ntmps201
    go_wp2_with (first | (go_at_call 211;with_reducible refine Calls.mono (KR.out _) ?_;rintro e w2 ⟨rfl,rfl⟩) | (go_at_call 208;with_reducible refine Calls.mono (KO.out _ _ _) ?_;rintro e w2 ⟨rfl,rfl⟩))
    go_returns
    exact ⟨by rw [← DH.out,if_neg (fun e=>by have:=Y.out;have:=Q1.out;unfold rnk at *;simp at *;omega)];rfl,Below.refl _ _⟩
 ·have z:(a==b)=false:=beqI _ _ q
  have Q:=hid q
  clear q
  go_enter Tryz.func201,Tryz.ntmps201
  go_wp2_with (first | (go_at_call 211;with_reducible refine Calls.mono (KR.out _) ?_;rintro e w2 ⟨rfl,rfl⟩) | (go_at_call 208;with_reducible refine Calls.mono (KO.out _ _ _) ?_;rintro e w2 ⟨rfl,rfl⟩))
  go_returns
  exact ⟨by rw [← DH.out,if_neg (fun e=>Q.out (by omega))];rfl,Below.refl _ _⟩
set_option maxRecDepth 100000 in
set_option maxHeartbeats 4000000 in
theorem two_9 (a b:Int) (w:World) (h:TabM w):Calls Tryz.prog 201 #[.string ⟨#[33,61]⟩,.int .i64 a,.int .i64 b] w fun e w'=>e=.returned (.int .i64 (binK ⟨#[33,61]⟩ a b))∧Below w.heap.size w w':=by
 obtain ⟨D,hD⟩:∃ D,binK ⟨#[33,61]⟩ a b=D:=⟨_,rfl⟩
 have DH:=hid (show (if a=b∧1≤a∧a≤5 then 1 else 0)=D from hD)
 rw [hD]
 clear hD
 have KR:=hid (ranked_any a)
 have KO:=hid only_any
 clear h
 by_cases q:a=b
 ·have z:(a==b)=true:=by simpa using q
  cases y:rnk a with
  | true =>
   rw [y] at KR
   have Y:=hid y
   have Q:=hid q
   clear y q
   go_enter Tryz.func201,Tryz.ntmps201
   go_wp2_with (first | (go_at_call 211;with_reducible refine Calls.mono (KR.out _) ?_;rintro e w2 ⟨rfl,rfl⟩) | (go_at_call 208;with_reducible refine Calls.mono (KO.out _ _ _) ?_;rintro e w2 ⟨rfl,rfl⟩))
   go_returns
   exact ⟨by rw [← DH.out,if_pos ⟨Q.out,by have:=Y.out;unfold rnk at this;simp at this;omega⟩];rfl,Below.refl _ _⟩
  | false =>
   rw [y] at KR
   have Y:=hid y
   have Q:=hid q
   clear y q
   by_cases q1:a=1
   ·have z1:(a==1)=true:=by simpa using q1
    have Q1:=hid q1
    clear q1
    go_enter Tryz.func201,Tryz.ntmps201
    go_wp2_with (first | (go_at_call 211;with_reducible refine Calls.mono (KR.out _) ?_;rintro e w2 ⟨rfl,rfl⟩) | (go_at_call 208;with_reducible refine Calls.mono (KO.out _ _ _) ?_;rintro e w2 ⟨rfl,rfl⟩))
    go_returns
    exact ⟨by rw [← DH.out,if_pos ⟨Q.out,by have:=Q1.out;omega⟩];rfl,Below.refl _ _⟩
   ·have z1:(a==1)=false:=beqI _ _ q1
    have Q1:=hid q1
    clear q1
    go_enter Tryz.func201,Tryz.ntmps201
    go_wp2_with (first | (go_at_call 211;with_reducible refine Calls.mono (KR.out _) ?_;rintro e w2 ⟨rfl,rfl⟩) | (go_at_call 208;with_reducible refine Calls.mono (KO.out _ _ _) ?_;rintro e w2 ⟨rfl,rfl⟩))
    go_returns
    exact ⟨by rw [← DH.out,if_neg (fun e=>by have:=Y.out;have:=Q1.out;unfold rnk at *;simp at *;omega)];rfl,Below.refl _ _⟩
 ·have z:(a==b)=false:=beqI _ _ q
  have Q:=hid q
  clear q
  go_enter Tryz.func201,Tryz.ntmps201
  go_wp2_with (first | (go_at_call 211;with_reducible refine Calls.mono (KR.out _) ?_;rintro e w2 ⟨rfl,rfl⟩) | (go_at_call 208;with_reducible refine Calls.mono (KO.out _ _ _) ?_;rintro e w2 ⟨rfl,rfl⟩))
  go_returns
  exact ⟨by rw [← DH.out,if_neg (fun e=>Q.out (by omega))];rfl,Below.refl _ _⟩
set_option maxRecDepth 100000 in
set_option maxHeartbeats 4000000 in
theorem two_10 (a b:Int) (w:World) (h:TabM w):Calls Tryz.prog 201 #[.string ⟨#[97,110,100]⟩,.int .i64 a,.int .i64 b] w fun e w'=>e=.returned (.int .i64 (binK ⟨#[97,110,100]⟩ a b))∧Below w.heap.size w w':=by
 obtain ⟨D,hD⟩:∃ D,binK ⟨#[97,110,100]⟩ a b=D:=⟨_,rfl⟩
 have DH:=hid (show (if a=1∧b=1 then 1 else 0)=D from hD)
 rw [hD]
 clear hD
 have KR:=hid (ranked_any a)
 have KO:=hid only_any
 clear h
 by_cases q:a=b
 ·have z:(a==b)=true:=by simpa using q
  have Q:=hid q
  clear q
  by_cases q1:a=1
  ·have z1:(a==1)=true:=by simpa using q1
   have Q1:=hid q1
   clear q1
   go_enter Tryz.func201,Tryz.ntmps201
   go_wp2_with (first | (go_at_call 211;with_reducible refine Calls.mono (KR.out _) ?_;rintro e w2 ⟨rfl,rfl⟩) | (go_at_call 208;with_reducible refine Calls.mono (KO.out _ _ _) ?_;rintro e w2 ⟨rfl,rfl⟩))
   go_returns
   exact ⟨by rw [← DH.out,if_pos ⟨Q1.out,by have:=Q.out;have:=Q1.out;omega⟩];rfl,Below.refl _ _⟩
  ·have z1:(a==1)=false:=beqI _ _ q1
   have Q1:=hid q1
   clear q1
   go_enter Tryz.func201,Tryz.ntmps201
   go_wp2_with (first | (go_at_call 211;with_reducible refine Calls.mono (KR.out _) ?_;rintro e w2 ⟨rfl,rfl⟩) | (go_at_call 208;with_reducible refine Calls.mono (KO.out _ _ _) ?_;rintro e w2 ⟨rfl,rfl⟩))
   go_returns
   exact ⟨by rw [← DH.out,if_neg (fun e=>Q1.out e.1)];rfl,Below.refl _ _⟩
 ·have z:(a==b)=false:=beqI _ _ q
  have Q:=hid q
  clear q
  go_enter Tryz.func201,Tryz.ntmps201
  go_wp2_with (first | (go_at_call 211;with_reducible refine Calls.mono (KR.out _) ?_;rintro e w2 ⟨rfl,rfl⟩) | (go_at_call 208;with_reducible refine Calls.mono (KO.out _ _ _) ?_;rintro e w2 ⟨rfl,rfl⟩))
  go_returns
  exact ⟨by rw [← DH.out,if_neg (fun e=>Q.out (by omega))];rfl,Below.refl _ _⟩
set_option maxRecDepth 100000 in
set_option maxHeartbeats 4000000 in
theorem two_11 (a b:Int) (w:World) (h:TabM w):Calls Tryz.prog 201 #[.string ⟨#[111,114]⟩,.int .i64 a,.int .i64 b] w fun e w'=>e=.returned (.int .i64 (binK ⟨#[111,114]⟩ a b))∧Below w.heap.size w w':=by
 obtain ⟨D,hD⟩:∃ D,binK ⟨#[111,114]⟩ a b=D:=⟨_,rfl⟩
 have DH:=hid (show (if a=1∧b=1 then 1 else 0)=D from hD)
 rw [hD]
 clear hD
 have KR:=hid (ranked_any a)
 have KO:=hid only_any
 clear h
 by_cases q:a=b
 ·have z:(a==b)=true:=by simpa using q
  have Q:=hid q
  clear q
  by_cases q1:a=1
  ·have z1:(a==1)=true:=by simpa using q1
   have Q1:=hid q1
   clear q1
   go_enter Tryz.func201,Tryz.ntmps201
   go_wp2_with (first | (go_at_call 211;with_reducible refine Calls.mono (KR.out _) ?_;rintro e w2 ⟨rfl,rfl⟩) | (go_at_call 208;with_reducible refine Calls.mono (KO.out _ _ _) ?_;rintro e w2 ⟨rfl,rfl⟩))
   go_returns
   exact ⟨by rw [← DH.out,if_pos ⟨Q1.out,by have:=Q.out;have:=Q1.out;omega⟩];rfl,Below.refl _ _⟩
  ·have z1:(a==1)=false:=beqI _ _ q1
   have Q1:=hid q1
   clear q1
   go_enter Tryz.func201,Tryz.ntmps201
   go_wp2_with (first | (go_at_call 211;with_reducible refine Calls.mono (KR.out _) ?_;rintro e w2 ⟨rfl,rfl⟩) | (go_at_call 208;with_reducible refine Calls.mono (KO.out _ _ _) ?_;rintro e w2 ⟨rfl,rfl⟩))
   go_returns
   exact ⟨by rw [← DH.out,if_neg (fun e=>Q1.out e.1)];rfl,Below.refl _ _⟩
 ·have z:(a==b)=false:=beqI _ _ q
  have Q:=hid q
  clear q
  go_enter Tryz.func201,Tryz.ntmps201
  go_wp2_with (first | (go_at_call 211;with_reducible refine Calls.mono (KR.out _) ?_;rintro e w2 ⟨rfl,rfl⟩) | (go_at_call 208;with_reducible refine Calls.mono (KO.out _ _ _) ?_;rintro e w2 ⟨rfl,rfl⟩))
  go_returns
  exact ⟨by rw [← DH.out,if_neg (fun e=>Q.out (by omega))];rfl,Below.refl _ _⟩
set_option maxRecDepth 100000 in
set_option maxHeartbeats 4000000 in
theorem two_12 (a b:Int) (w:World) (h:TabM w):Calls Tryz.prog 201 #[.string ⟨#[109,105,110]⟩,.int .i64 a,.int .i64 b] w fun e w'=>e=.returned (.int .i64 (binK ⟨#[109,105,110]⟩ a b))∧Below w.heap.size w w':=by
 obtain ⟨D,hD⟩:∃ D,binK ⟨#[109,105,110]⟩ a b=D:=⟨_,rfl⟩
 have DH:=hid (show (if a=b∧2≤a∧a≤5 then a else 0)=D from hD)
 rw [hD]
 clear hD
 have KR:=hid (ranked_any a)
 have KO:=hid only_any
 clear h
 by_cases q:a=b
 ·have z:(a==b)=true:=by simpa using q
  cases y:rnk a with
  | true =>
   rw [y] at KR
   have Y:=hid y
   have Q:=hid q
   clear y q
   go_enter Tryz.func201,Tryz.ntmps201
   go_wp2_with (first | (go_at_call 211;with_reducible refine Calls.mono (KR.out _) ?_;rintro e w2 ⟨rfl,rfl⟩) | (go_at_call 208;with_reducible refine Calls.mono (KO.out _ _ _) ?_;rintro e w2 ⟨rfl,rfl⟩))
   go_returns
   exact ⟨by rw [← DH.out,if_pos ⟨Q.out,by have:=Y.out;unfold rnk at this;simp at this;omega⟩];rfl,Below.refl _ _⟩
  | false =>
   rw [y] at KR
   have Y:=hid y
   have Q:=hid q
   clear y q
   go_enter Tryz.func201,Tryz.ntmps201
   go_wp2_with (first | (go_at_call 211;with_reducible refine Calls.mono (KR.out _) ?_;rintro e w2 ⟨rfl,rfl⟩) | (go_at_call 208;with_reducible refine Calls.mono (KO.out _ _ _) ?_;rintro e w2 ⟨rfl,rfl⟩))
   go_returns
   exact ⟨by rw [← DH.out,if_neg (fun e=>by have:=Y.out;unfold rnk at this;simp at this;omega)];rfl,Below.refl _ _⟩
 ·have z:(a==b)=false:=beqI _ _ q
  have Q:=hid q
  clear q
  go_enter Tryz.func201,Tryz.ntmps201
  go_wp2_with (first | (go_at_call 211;with_reducible refine Calls.mono (KR.out _) ?_;rintro e w2 ⟨rfl,rfl⟩) | (go_at_call 208;with_reducible refine Calls.mono (KO.out _ _ _) ?_;rintro e w2 ⟨rfl,rfl⟩))
  go_returns
  exact ⟨by rw [← DH.out,if_neg (fun e=>Q.out (by omega))];rfl,Below.refl _ _⟩
set_option maxRecDepth 100000 in
set_option maxHeartbeats 4000000 in
theorem two_13 (a b:Int) (w:World) (h:TabM w):Calls Tryz.prog 201 #[.string ⟨#[109,97,120]⟩,.int .i64 a,.int .i64 b] w fun e w'=>e=.returned (.int .i64 (binK ⟨#[109,97,120]⟩ a b))∧Below w.heap.size w w':=by
 obtain ⟨D,hD⟩:∃ D,binK ⟨#[109,97,120]⟩ a b=D:=⟨_,rfl⟩
 have DH:=hid (show (if a=b∧2≤a∧a≤5 then a else 0)=D from hD)
 rw [hD]
 clear hD
 have KR:=hid (ranked_any a)
 have KO:=hid only_any
 clear h
 by_cases q:a=b
 ·have z:(a==b)=true:=by simpa using q
  cases y:rnk a with
  | true =>
   rw [y] at KR
   have Y:=hid y
   have Q:=hid q
   clear y q
   go_enter Tryz.func201,Tryz.ntmps201
   go_wp2_with (first | (go_at_call 211;with_reducible refine Calls.mono (KR.out _) ?_;rintro e w2 ⟨rfl,rfl⟩) | (go_at_call 208;with_reducible refine Calls.mono (KO.out _ _ _) ?_;rintro e w2 ⟨rfl,rfl⟩))
   go_returns
   exact ⟨by rw [← DH.out,if_pos ⟨Q.out,by have:=Y.out;unfold rnk at this;simp at this;omega⟩];rfl,Below.refl _ _⟩
  | false =>
   rw [y] at KR
   have Y:=hid y
   have Q:=hid q
   clear y q
   go_enter Tryz.func201,Tryz.ntmps201
   go_wp2_with (first | (go_at_call 211;with_reducible refine Calls.mono (KR.out _) ?_;rintro e w2 ⟨rfl,rfl⟩) | (go_at_call 208;with_reducible refine Calls.mono (KO.out _ _ _) ?_;rintro e w2 ⟨rfl,rfl⟩))
   go_returns
   exact ⟨by rw [← DH.out,if_neg (fun e=>by have:=Y.out;unfold rnk at this;simp at this;omega)];rfl,Below.refl _ _⟩
 ·have z:(a==b)=false:=beqI _ _ q
  have Q:=hid q
  clear q
  go_enter Tryz.func201,Tryz.ntmps201
  go_wp2_with (first | (go_at_call 211;with_reducible refine Calls.mono (KR.out _) ?_;rintro e w2 ⟨rfl,rfl⟩) | (go_at_call 208;with_reducible refine Calls.mono (KO.out _ _ _) ?_;rintro e w2 ⟨rfl,rfl⟩))
  go_returns
  exact ⟨by rw [← DH.out,if_neg (fun e=>Q.out (by omega))];rfl,Below.refl _ _⟩
theorem ofTwo_any (op:ByteArray) (ho:op ∈ ops12∨op=sMin∨op=sMax) (a b:Int) (w:World) (h:TabM w):Calls Tryz.prog 201 #[.string op,.int .i64 a,.int .i64 b] w fun e w'=>e=.returned (.int .i64 (binK op a b))∧Below w.heap.size w w':=by
 simp only [ops12,List.mem_cons,List.not_mem_nil,or_false] at ho
 rcases ho with (rfl | rfl | rfl | rfl | rfl | rfl | rfl | rfl | rfl | rfl | rfl | rfl) | rfl | rfl
 ·exact two_11 a b w h
 ·exact two_10 a b w h
 ·exact two_4 a b w h
 ·exact two_5 a b w h
 ·exact two_6 a b w h
 ·exact two_7 a b w h
 ·exact two_8 a b w h
 ·exact two_9 a b w h
 ·exact two_0 a b w h
 ·exact two_1 a b w h
 ·exact two_2 a b w h
 ·exact two_3 a b w h
 ·exact two_12 a b w h
 ·exact two_13 a b w h
def isVal (o:ByteArray):Bool:=eqB o ⟨#[105,110,112,117,116]⟩ || eqB o ⟨#[114,117,108,101]⟩
def isTab (o:ByteArray):Bool:=eqB o ⟨#[116,97,98,108,101]⟩
def valK (ks:List Tr) (nm:ByteArray):Option Nat:=(ks.find? (fun k=>isVal k.op && eqB k.name nm)).map Tr.kind
def tabK (ks:List Tr) (nm:ByteArray):Option Tr:=ks.find? (fun k=>isTab k.op && eqB k.name nm)
def decN (ks:List Tr) (nm:ByteArray):Nat:=ks.countP (fun k=>eqB k.name nm)
def besK (be:List (ByteArray × Nat)) (nm:ByteArray):Option Nat:=be.foldl (fun r x=>if eqB x.1 nm then some x.2 else r) none
def cntK (loc:List ByteArray) (nm:ByteArray):Nat:=loc.countP (fun x=>eqB x nm)
def namK (ks:List Tr) (be:List (ByteArray × Nat)) (loc:List ByteArray) (nm:ByteArray):Int :=
 if 0<cntK loc nm then 3 else match besK be nm with | some k=>(k:Nat) | none=>(((valK ks nm).getD 0:Nat):Int)
def takenK (ks:List Tr) (be:List (ByteArray × Nat)) (loc:List ByteArray) (nm:ByteArray):Bool:=decide (0<decN ks nm) || (besK be nm).isSome || decide (0<cntK loc nm)
def sumK (ks:List Tr) (be:List (ByteArray × Nat)) (loc:List ByteArray) (nm:ByteArray) (a b:Int):Int :=
 onl (!takenK ks be loc nm && (a==6) && (b==3 || b==2)) b
def tabV (ks:List Tr) (nm:ByteArray) (a:Int):Int:=match tabK ks nm with | none=>0 | some t=>onl (a==t.n) (t.kind:Nat)
def oneK (ks:List Tr) (op nm:ByteArray) (a:Int):Int :=
 if eqB op ⟨#[110,111,116]⟩ then onl (a==1) 1 else if eqB op ⟨#[110,101,103]⟩ then onl (amt a) a else if eqB op ⟨#[108,101,110]⟩ then onl (a==6) 2 else if eqB op ⟨#[97,116]⟩ then tabV ks nm a else 0
def nodeK (ks:List Tr) (be:List (ByteArray × Nat)) (loc:List ByteArray) (op nm:ByteArray) (kind:Nat):List Int→Int
 | []=>if eqB op ⟨#[108,105,116]⟩ then onl (decide (1≤kind∧kind≤5)) (kind:Nat) else if eqB op ⟨#[110,97,109,101]⟩ then namK ks be loc nm else 0
 | [a]=>oneK ks op nm a
 | [a,b]=>if eqB op ⟨#[115,117,109]⟩ then sumK ks be loc nm a b else binK op a b
 | [a,b,c]=>onl (eqB op ⟨#[105,102]⟩ && (a==1) && (b==c) && (b != 6)) b
 | _=>0
mutual
def chk (ks:List Tr) (be:List (ByteArray × Nat)) (loc:List ByteArray):Tr→Int × Nat
 | .nd op nm kind n a kids =>
  match chkL ks be loc (eqB op ⟨#[115,117,109]⟩) nm true kids with
  | .inr f=>(0,f)
  | .inl l=>if nodeK ks be loc op nm kind l=0 then (0,a) else (nodeK ks be loc op nm kind l,0)
def chkL (ks:List Tr) (be:List (ByteArray × Nat)) (loc:List ByteArray) (s:Bool) (nm:ByteArray) (first:Bool):List Tr→List Int ⊕ Nat
 | []=>.inl []
 | t :: ts =>
  let r:=chk ks be (if s && !first then nm :: loc else loc) t
  if r.1=0 then .inr r.2 else match chkL ks be loc s nm false ts with | .inr f=>.inr f | .inl l=>.inl (r.1 :: l)
end
structure Scp (w:World) (b0 b1 b2 b3 b4 p:Nat) (ks:List Tr) (be:List (ByteArray × Nat)) (loc:List ByteArray) (f:Nat):Prop where
 c0:w.cell? ⟨p,0,none⟩=some (.map (some b0))
 c1:w.cell? ⟨p,1,none⟩=some (.map (some b1))
 c2:w.cell? ⟨p,2,none⟩=some (.map (some b2))
 c3:w.cell? ⟨p,3,none⟩=some (.map (some b3))
 c4:w.cell? ⟨p,4,none⟩=some (.map (some b4))
 c5:w.cell? ⟨p,5,none⟩=some (.int .i64 (f:Nat))
 fz:∀ i,w.frozen? ⟨p,i,none⟩=false
 m0:∃ l,MapS w b0 l∧∀ nm,atM l nm=(valK ks nm).map (fun k=>.int .i64 (k:Nat))
 m1:∃ l,MapS w b1 l∧∀ nm,match tabK ks nm with | none=>atM l nm=none | some t=>∃ (sa:Option Addr) (sm sc:Nat),atM l nm=some (.agg #[.string t.op,.string t.name,.int .i64 (t.kind:Nat),.int .i64 t.n,.int .i64 (t.pl:Nat),.slice sa sm sc])
 m2:∃ l,MapS w b2 l∧∀ nm,(atM l nm).getD (.int .i64 0)=.int .i64 (decN ks nm:Nat)
 m3:∃ l,MapS w b3 l∧∀ nm,atM l nm=(besK be nm).map (fun k=>.int .i64 (k:Nat))
 m4:∃ l,MapS w b4 l∧∀ nm,(atM l nm).getD (.int .i64 0)=.int .i64 (cntK loc nm:Nat)
 lt:b0<b1∧b1<b2∧b2<b3∧b3<b4∧b4<p
theorem Scp.pl {w:World} {b0 b1 b2 b3 b4 p:Nat} {ks:List Tr} {be:List (ByteArray × Nat)} {loc:List ByteArray} {f:Nat} (h:Scp w b0 b1 b2 b3 b4 p ks be loc f):p<w.heap.size:=World.block_lt_of_cell? _ _ h.c0
theorem Scp.keep {w w':World} {b0 b1 b2 b3 b4 p:Nat} {ks:List Tr} {be:List (ByteArray × Nat)} {loc:List ByteArray} {f:Nat} (h:Scp w b0 b1 b2 b3 b4 p ks be loc f) (hk:∀ g,g=b0∨g=b1∨g=b2∨g=b3∨g=b4∨g=p→w'.heap[g]?=w.heap[g]?):Scp w' b0 b1 b2 b3 b4 p ks be loc f:=by
 have e:∀ i,w'.cell? ⟨p,i,none⟩=w.cell? ⟨p,i,none⟩:=fun i=>World.cell?_of_block (a:=⟨p,i,none⟩) (hk p (by omega))
 refine ⟨by rw [e];exact h.c0,by rw [e];exact h.c1,by rw [e];exact h.c2,by rw [e];exact h.c3,by rw [e];exact h.c4,by rw [e];exact h.c5,fun i=>by rw [World.frozen?_of_block (a:=⟨p,i,none⟩) (hk p (by omega))];exact h.fz i,?_,?_,?_,?_,?_,h.lt⟩
 ·obtain ⟨l,a,b⟩:=h.m0;exact ⟨l,a.kept (hk b0 (by omega)),b⟩
 ·obtain ⟨l,a,b⟩:=h.m1;exact ⟨l,a.kept (hk b1 (by omega)),b⟩
 ·obtain ⟨l,a,b⟩:=h.m2;exact ⟨l,a.kept (hk b2 (by omega)),b⟩
 ·obtain ⟨l,a,b⟩:=h.m3;exact ⟨l,a.kept (hk b3 (by omega)),b⟩
 ·obtain ⟨l,a,b⟩:=h.m4;exact ⟨l,a.kept (hk b4 (by omega)),b⟩
theorem Scp.next {w w':World} {b0 b1 b2 b3 b4 p:Nat} {ks:List Tr} {be:List (ByteArray × Nat)} {loc:List ByteArray} {f:Nat} (h:Scp w b0 b1 b2 b3 b4 p ks be loc f) (k:Below w.heap.size w w'):Scp w' b0 b1 b2 b3 b4 p ks be loc f :=
 h.keep fun g q=>k.block g (by have:=h.pl;have:=h.lt;omega)
theorem Scp.k0 {w:World} {b0 b1 b2 b3 b4 p:Nat} {ks:List Tr} {be:List (ByteArray × Nat)} {loc:List ByteArray} {f:Nat} (h:Scp w b0 b1 b2 b3 b4 p ks be loc f) (nm:ByteArray):(Instr.lookup 195 (.map (some b0)) (.string nm) false).run Tryz.prog w=.ok (.int .i64 (((valK ks nm).getD 0:Nat):Int)) w:=by
 obtain ⟨l,a,b⟩:=h.m0
 rw [lookM1 w b0 nm l a umK zKind,b nm]
 cases valK ks nm <;> rfl
theorem Scp.k1 {w:World} {b0 b1 b2 b3 b4 p:Nat} {ks:List Tr} {be:List (ByteArray × Nat)} {loc:List ByteArray} {f:Nat} (h:Scp w b0 b1 b2 b3 b4 p ks be loc f) (nm:ByteArray):∃ (sa:Option Addr) (sm sc:Nat),∀ W,W.heap[b1]?=w.heap[b1]?→(Instr.lookup 163 (.map (some b1)) (.string nm) true).run Tryz.prog W=.ok (.tuple #[.agg #[.string ((tabK ks nm).getD Tr.zero).op,.string ((tabK ks nm).getD Tr.zero).name,.int .i64 (((tabK ks nm).getD Tr.zero).kind:Nat),.int .i64 ((tabK ks nm).getD Tr.zero).n,.int .i64 (((tabK ks nm).getD Tr.zero).pl:Nat),.slice sa sm sc],.bool (tabK ks nm).isSome]) W:=by
 obtain ⟨l,a,b⟩:=h.m1
 have b:=b nm
 cases hq:tabK ks nm with
 | none=>rw [hq] at b;exact ⟨_,_,_,fun W hW=>by rw [lookM2 W b1 nm l (a.kept hW) umN zNode,b];rfl⟩
 | some t=>rw [hq] at b;obtain ⟨sa,sm,sc,b⟩:=b;exact ⟨sa,sm,sc,fun W hW=>by rw [lookM2 W b1 nm l (a.kept hW) umN zNode,b];rfl⟩
theorem Scp.k2 {w:World} {b0 b1 b2 b3 b4 p:Nat} {ks:List Tr} {be:List (ByteArray × Nat)} {loc:List ByteArray} {f:Nat} (h:Scp w b0 b1 b2 b3 b4 p ks be loc f) (nm:ByteArray):(Instr.lookup 97 (.map (some b2)) (.string nm) false).run Tryz.prog w=.ok (.int .i64 (decN ks nm:Nat)) w:=by
 obtain ⟨l,a,b⟩:=h.m2
 rw [lookM1 w b2 nm l a umI zInt,b nm]
theorem Scp.k3 {w:World} {b0 b1 b2 b3 b4 p:Nat} {ks:List Tr} {be:List (ByteArray × Nat)} {loc:List ByteArray} {f:Nat} (h:Scp w b0 b1 b2 b3 b4 p ks be loc f) (nm:ByteArray):(Instr.lookup 195 (.map (some b3)) (.string nm) true).run Tryz.prog w=.ok (.tuple #[.int .i64 (((besK be nm).getD 0:Nat):Int),.bool (besK be nm).isSome]) w:=by
 obtain ⟨l,a,b⟩:=h.m3
 rw [lookM2 w b3 nm l a umK zKind,b nm]
 cases besK be nm <;> rfl
theorem Scp.k4 {w:World} {b0 b1 b2 b3 b4 p:Nat} {ks:List Tr} {be:List (ByteArray × Nat)} {loc:List ByteArray} {f:Nat} (h:Scp w b0 b1 b2 b3 b4 p ks be loc f) (nm:ByteArray):(Instr.lookup 97 (.map (some b4)) (.string nm) false).run Tryz.prog w=.ok (.int .i64 (cntK loc nm:Nat)) w:=by
 obtain ⟨l,a,b⟩:=h.m4
 rw [lookM1 w b4 nm l a umI zInt,b nm]
set_option maxRecDepth 100000 in
set_option maxHeartbeats 4000000 in
theorem named_any {w:World} {b0 b1 b2 b3 b4 p:Nat} {ks:List Tr} {be:List (ByteArray × Nat)} {loc:List ByteArray} {f:Nat} (h:Scp w b0 b1 b2 b3 b4 p ks be loc f) (nm:ByteArray) :
  Calls Tryz.prog 207 #[.pointer (some ⟨p,0,none⟩),.string nm] w fun e w'=>e=.returned (.int .i64 (namK ks be loc nm))∧w=w':=by
 have k0:=h.k0 nm
 have k3:=h.k3 nm
 have k4:=h.k4 nm
 obtain ⟨c0,_,_,c3,c4,_,_,_⟩:=h
 unfold namK
 generalize cntK loc nm=n4 at *
 by_cases q:0<n4
 ·have q':(0:Int)<(n4:Int):=by omega
  rw [if_pos q]
  clear q
  go_enter Tryz.func207,Tryz.ntmps207
  go_wp2_with fail
  go_returns
  exact ⟨rfl,rfl⟩
 ·have q':¬ (0:Int)<(n4:Int):=by omega
  rw [if_neg q]
  clear q
  cases hb:besK be nm with
  | some k =>
   rw [hb] at k3
   simp only [Option.getD_some,Option.isSome_some] at k3
   clear hb
   go_enter Tryz.func207,Tryz.ntmps207
   go_wp2_with fail
   go_returns
   exact ⟨rfl,rfl⟩
  | none =>
   rw [hb] at k3
   simp only [Option.getD_none,Option.isSome_none] at k3
   clear hb
   generalize (valK ks nm).getD 0=kv at *
   go_enter Tryz.func207,Tryz.ntmps207
   go_wp2_with fail
   go_returns
   exact ⟨rfl,rfl⟩
set_option maxRecDepth 100000 in
set_option maxHeartbeats 4000000 in
theorem ofSum_any {w:World} {b0 b1 b2 b3 b4 p:Nat} {ks:List Tr} {be:List (ByteArray × Nat)} {loc:List ByteArray} {f:Nat} (h:Scp w b0 b1 b2 b3 b4 p ks be loc f) (nm:ByteArray) (a b:Int) :
  Calls Tryz.prog 200 #[.pointer (some ⟨p,0,none⟩),.string nm,.int .i64 a,.int .i64 b] w fun e w'=>e=.returned (.int .i64 (sumK ks be loc nm a b))∧w=w':=by
 have k2:=h.k2 nm
 have k3:=h.k3 nm
 have k4:=h.k4 nm
 have KO:=hid only_any
 obtain ⟨_,_,c2,c3,c4,_,_,_⟩:=h
 obtain ⟨D,hD⟩:∃ D,sumK ks be loc nm a b=D:=⟨_,rfl⟩
 rw [hD]
 unfold sumK takenK at hD
 generalize (besK be nm).isSome=sb at *
 generalize (besK be nm).getD 0=vb at *
 generalize cntK loc nm=n4 at *
 generalize decN ks nm=n2 at *
 by_cases y2:0<n2
 ·have y2':(0:Int)<(n2:Int):=by omega
  have e2:decide (0<n2)=true:=by simpa using y2
  have DH:=hid (show onl false b=D from by rw [← hD,e2];simp)
  clear hD
  go_enter Tryz.func200,Tryz.ntmps200
  go_wp2_with (go_at_call 208;with_reducible refine Calls.mono (KO.out _ _ _) ?_;rintro e w2 ⟨rfl,rfl⟩)
  go_returns
  exact ⟨by rw [← DH.out];rfl,rfl⟩
 ·have y2':¬ (0:Int)<(n2:Int):=by omega
  have e2:decide (0<n2)=false:=by simpa using y2
  cases sb with
  | true =>
   have DH:=hid (show onl false b=D from by rw [← hD,e2];simp)
   clear hD
   go_enter Tryz.func200,Tryz.ntmps200
   go_wp2_with (go_at_call 208;with_reducible refine Calls.mono (KO.out _ _ _) ?_;rintro e w2 ⟨rfl,rfl⟩)
   go_returns
   exact ⟨by rw [← DH.out];rfl,rfl⟩
  | false =>
   by_cases y4:0<n4
   ·have y4':(0:Int)<(n4:Int):=by omega
    have e4:decide (0<n4)=true:=by simpa using y4
    have DH:=hid (show onl false b=D from by rw [← hD,e2,e4];simp)
    clear hD
    go_enter Tryz.func200,Tryz.ntmps200
    go_wp2_with (go_at_call 208;with_reducible refine Calls.mono (KO.out _ _ _) ?_;rintro e w2 ⟨rfl,rfl⟩)
    go_returns
    exact ⟨by rw [← DH.out];rfl,rfl⟩
   ·have y4':¬ (0:Int)<(n4:Int):=by omega
    have e4:decide (0<n4)=false:=by simpa using y4
    rw [e2,e4] at hD
    clear e2 e4 y2 y4
    by_cases q6:a=6
    ·have z6:(a==6)=true:=by simpa using q6
     by_cases q3:b=3
     ·have z3:(b==3)=true:=by simpa using q3
      have DH:=hid (show onl true b=D from by rw [← hD,z6,z3];rfl)
      clear hD q6 q3
      go_enter Tryz.func200,Tryz.ntmps200
      go_wp2_with (go_at_call 208;with_reducible refine Calls.mono (KO.out _ _ _) ?_;rintro e w2 ⟨rfl,rfl⟩)
      go_returns
      exact ⟨by rw [← DH.out];rfl,rfl⟩
     ·have z3:(b==3)=false:=beqI _ _ q3
      by_cases q2:b=2
      ·have z2:(b==2)=true:=by simpa using q2
       have DH:=hid (show onl true b=D from by rw [← hD,z6,z3,z2];rfl)
       clear hD q6 q3 q2
       go_enter Tryz.func200,Tryz.ntmps200
       go_wp2_with (go_at_call 208;with_reducible refine Calls.mono (KO.out _ _ _) ?_;rintro e w2 ⟨rfl,rfl⟩)
       go_returns
       exact ⟨by rw [← DH.out];rfl,rfl⟩
      ·have z2:(b==2)=false:=beqI _ _ q2
       have DH:=hid (show onl false b=D from by rw [← hD,z6,z3,z2];rfl)
       clear hD q6 q3 q2
       go_enter Tryz.func200,Tryz.ntmps200
       go_wp2_with (go_at_call 208;with_reducible refine Calls.mono (KO.out _ _ _) ?_;rintro e w2 ⟨rfl,rfl⟩)
       go_returns
       exact ⟨by rw [← DH.out];rfl,rfl⟩
    ·have z6:(a==6)=false:=beqI _ _ q6
     have DH:=hid (show onl false b=D from by rw [← hD,z6];rfl)
     clear hD q6
     go_enter Tryz.func200,Tryz.ntmps200
     go_wp2_with (go_at_call 208;with_reducible refine Calls.mono (KO.out _ _ _) ?_;rintro e w2 ⟨rfl,rfl⟩)
     go_returns
     exact ⟨by rw [← DH.out];rfl,rfl⟩
set_option maxRecDepth 100000 in
set_option maxHeartbeats 4000000 in
theorem ofNone_lit {w:World} {b0 b1 b2 b3 b4 p:Nat} {ks:List Tr} {be:List (ByteArray × Nat)} {loc:List ByteArray} {f:Nat} (h:Scp w b0 b1 b2 b3 b4 p ks be loc f) (nm:ByteArray) (kind:Nat) (n:Int) (a:Nat) (v:Value) (hv:v.oneCell'=true) (h1:1≤kind) (h5:kind≤5) :
  Calls Tryz.prog 198 #[.pointer (some ⟨p,0,none⟩),.agg #[.string ⟨#[108,105,116]⟩,.string nm,.int .i64 (kind:Nat),.int .i64 n,.int .i64 (a:Nat),v]] w fun e w'=>e=.returned (.int .i64 (kind:Nat))∧Below w.heap.size w w':=by
 have g1:(1:Int)≤(kind:Int):=by omega
 have g5:(kind:Int)≤5:=by omega
 have B1:=hid (show Below w.heap.size w (w.alloc (.cells #[.string ⟨#[108,105,116]⟩,.string nm,.int .i64 (kind:Nat),.int .i64 n,.int .i64 (a:Nat),v] 26)) from (Below.refl _ _).alloc (Nat.le_refl _) _)
 clear h h1 h5
 go_enter Tryz.func198,Tryz.ntmps198
 go_wp2_with fail
 go_returns
 exact ⟨rfl,B1.out⟩
set_option maxRecDepth 100000 in
set_option maxHeartbeats 4000000 in
theorem ofNone_name {w:World} {b0 b1 b2 b3 b4 p:Nat} {ks:List Tr} {be:List (ByteArray × Nat)} {loc:List ByteArray} {f:Nat} (h:Scp w b0 b1 b2 b3 b4 p ks be loc f) (nm:ByteArray) (kind:Nat) (n:Int) (a:Nat) (v:Value) (hv:v.oneCell'=true) :
  Calls Tryz.prog 198 #[.pointer (some ⟨p,0,none⟩),.agg #[.string ⟨#[110,97,109,101]⟩,.string nm,.int .i64 (kind:Nat),.int .i64 n,.int .i64 (a:Nat),v]] w fun e w'=>e=.returned (.int .i64 (namK ks be loc nm))∧Below w.heap.size w w':=by
 have B1:=hid (show Below w.heap.size w (w.alloc (.cells #[.string ⟨#[110,97,109,101]⟩,.string nm,.int .i64 (kind:Nat),.int .i64 n,.int .i64 (a:Nat),v] 26)) from (Below.refl _ _).alloc (Nat.le_refl _) _)
 have K:=hid (named_any (h.next B1.out) nm)
 clear h
 go_enter Tryz.func198,Tryz.ntmps198
 go_wp2_with (go_at_call 207;with_reducible refine Calls.mono K.out ?_;rintro e w2 ⟨rfl,rfl⟩)
 go_returns
 exact ⟨rfl,B1.out⟩
set_option maxRecDepth 100000 in
set_option maxHeartbeats 4000000 in
theorem ofOne_not (p:Nat) (nm:ByteArray) (kind:Nat) (n:Int) (pl:Nat) (v:Value) (hv:v.oneCell'=true) (a:Int) (w:World) :
  Calls Tryz.prog 199 #[.pointer (some ⟨p,0,none⟩),.agg #[.string ⟨#[110,111,116]⟩,.string nm,.int .i64 (kind:Nat),.int .i64 n,.int .i64 (pl:Nat),v],.int .i64 a] w fun e w'=>e=.returned (.int .i64 (onl (a==1) 1))∧Below w.heap.size w w':=by
 have B1:=hid (show Below w.heap.size w (w.alloc (.cells #[.string ⟨#[110,111,116]⟩,.string nm,.int .i64 (kind:Nat),.int .i64 n,.int .i64 (pl:Nat),v] 26)) from (Below.refl _ _).alloc (Nat.le_refl _) _)
 have KO:=hid only_any
 obtain ⟨D,hD⟩:∃ D,onl (a==1) 1=D:=⟨_,rfl⟩
 rw [hD]
 by_cases q:a=1
 ·have z:(a==1)=true:=by simpa using q
  have DH:=hid hD
  rw [z] at DH
  clear hD q
  go_enter Tryz.func199,Tryz.ntmps199
  go_wp2_with (go_at_call 208;with_reducible refine Calls.mono (KO.out _ _ _) ?_;rintro e w2 ⟨rfl,rfl⟩)
  go_returns
  exact ⟨by rw [← DH.out];rfl,B1.out⟩
 ·have z:(a==1)=false:=beqI _ _ q
  have DH:=hid hD
  rw [z] at DH
  clear hD q
  go_enter Tryz.func199,Tryz.ntmps199
  go_wp2_with (go_at_call 208;with_reducible refine Calls.mono (KO.out _ _ _) ?_;rintro e w2 ⟨rfl,rfl⟩)
  go_returns
  exact ⟨by rw [← DH.out];rfl,B1.out⟩
set_option maxRecDepth 100000 in
set_option maxHeartbeats 4000000 in
theorem ofOne_len (p:Nat) (nm:ByteArray) (kind:Nat) (n:Int) (pl:Nat) (v:Value) (hv:v.oneCell'=true) (a:Int) (w:World) :
  Calls Tryz.prog 199 #[.pointer (some ⟨p,0,none⟩),.agg #[.string ⟨#[108,101,110]⟩,.string nm,.int .i64 (kind:Nat),.int .i64 n,.int .i64 (pl:Nat),v],.int .i64 a] w fun e w'=>e=.returned (.int .i64 (onl (a==6) 2))∧Below w.heap.size w w':=by
 have B1:=hid (show Below w.heap.size w (w.alloc (.cells #[.string ⟨#[108,101,110]⟩,.string nm,.int .i64 (kind:Nat),.int .i64 n,.int .i64 (pl:Nat),v] 26)) from (Below.refl _ _).alloc (Nat.le_refl _) _)
 have KO:=hid only_any
 obtain ⟨D,hD⟩:∃ D,onl (a==6) 2=D:=⟨_,rfl⟩
 rw [hD]
 by_cases q:a=6
 ·have z:(a==6)=true:=by simpa using q
  have DH:=hid hD
  rw [z] at DH
  clear hD q
  go_enter Tryz.func199,Tryz.ntmps199
  go_wp2_with (go_at_call 208;with_reducible refine Calls.mono (KO.out _ _ _) ?_;rintro e w2 ⟨rfl,rfl⟩)
  go_returns
  exact ⟨by rw [← DH.out];rfl,B1.out⟩
 ·have z:(a==6)=false:=beqI _ _ q
  have DH:=hid hD
  rw [z] at DH
  clear hD q
  go_enter Tryz.func199,Tryz.ntmps199
  go_wp2_with (go_at_call 208;with_reducible refine Calls.mono (KO.out _ _ _) ?_;rintro e w2 ⟨rfl,rfl⟩)
  go_returns
  exact ⟨by rw [← DH.out];rfl,B1.out⟩
set_option maxRecDepth 100000 in
set_option maxHeartbeats 4000000 in
theorem ofOne_neg (p:Nat) (nm:ByteArray) (kind:Nat) (n:Int) (pl:Nat) (v:Value) (hv:v.oneCell'=true) (a:Int) (w:World) :
  Calls Tryz.prog 199 #[.pointer (some ⟨p,0,none⟩),.agg #[.string ⟨#[110,101,103]⟩,.string nm,.int .i64 (kind:Nat),.int .i64 n,.int .i64 (pl:Nat),v],.int .i64 a] w fun e w'=>e=.returned (.int .i64 (onl (amt a) a))∧Below w.heap.size w w':=by
 have B1:=hid (show Below w.heap.size w (w.alloc (.cells #[.string ⟨#[110,101,103]⟩,.string nm,.int .i64 (kind:Nat),.int .i64 n,.int .i64 (pl:Nat),v] 26)) from (Below.refl _ _).alloc (Nat.le_refl _) _)
 have KO:=hid only_any
 have KA:=hid (amount_any a)
 generalize amt a=q at *
 go_enter Tryz.func199,Tryz.ntmps199
 go_wp2_with (first | (go_at_call 209;with_reducible refine Calls.mono (KA.out _) ?_;rintro e w2 ⟨rfl,rfl⟩) | (go_at_call 208;with_reducible refine Calls.mono (KO.out _ _ _) ?_;rintro e w2 ⟨rfl,rfl⟩))
 go_returns
 exact ⟨rfl,B1.out⟩
end Go.Proofs.YteknljnjcoehoaaGreatDoor
