/- Parts of the proof. -/
import Derived.Test.YtbeahnehjannpaaDoorJa
namespace Go.Proofs.YtbeahnehjannpaaDoor
open Go.RowKit
set_option linter.unusedVariables false
set_option linter.unusedSimpArgs false
structure B4u (w:World) (b:Nat) (v0 v1 v2 v3:Value):Prop where
 c0:w.cell? ⟨b,0,none⟩=some v0
 c1:w.cell? ⟨b,1,none⟩=some v1
 c2:w.cell? ⟨b,2,none⟩=some v2
 c3:w.cell? ⟨b,3,none⟩=some v3
theorem B4u.new (w:World) (t:TypeId) (v0 v1 v2 v3:Value):B4u (w.alloc (.cells #[v0,v1,v2,v3] t)) w.heap.size v0 v1 v2 v3:=⟨by simp,by simp,by simp,by simp⟩
set_option maxRecDepth 100000 in
set_option maxHeartbeats 4000000 in
theorem recM_add (a b:Int) (w:World) (h:TabU w) :Calls Tryd.prog 62 #[.string ⟨#[43]⟩,.int .i64 a,.int .i64 b] w fun e w'=>e=.returned (.int .i64 (fndU unitL ⟨#[43]⟩ a b))∧Below w.heap.size w w':=by
 have HT:=hid h
 obtain ⟨D,hD⟩:∃ D,fndU unitL ⟨#[43]⟩ a b=D:=⟨_,rfl⟩
 have DH:=hid (show fndU (unitL.drop 0) ⟨#[43]⟩ a b=D from hD)
 rw [hD]
 clear h hD
 go_enter Tryd.func62,Tryd.ntmps62
 go_upto_region 3 with fail
 go_wp2_with (refine wpList_unit rfl rfl HT.out ?_)
 have TA:=hid (rfl:unitA=unitA)
 generalize hmA:unitA=mA at *
 go_loopg [18,6,8] (16) (fun g iv rv bv wr=>∃ i:Nat,i≤16∧g=16 - i∧iv=.int .i64 (i:Nat)∧Hid (Below w.heap.size w wr)∧Hid (fndU (unitL.drop i) ⟨#[43]⟩ a b=D))
 case atStart=>exact ⟨0,by omega,rfl,rfl,Below.refl _ _,DH.out⟩
 case round =>
  obtain ⟨i,hi,rfl,rfl,BW,EH⟩:=hrel
  by_cases q:i<16
  ·have q':(i:Int)<16:=by omega
   obtain ⟨⟨o,x,y,z⟩,hx⟩:∃ x,unitL[i]?=some x:=⟨_,List.getElem?_eq_getElem (by show i<16;exact q)⟩
   have IX:=idx_unit i _ hx
   rw [hmA] at IX
   dsimp only at IX
   have SE:=hid (show (if eqB o ⟨#[43]⟩=true∧x=a∧y=b then z else fndU (unitL.drop (i+1)) ⟨#[43]⟩ a b)=D from by
    rw [← EH.out,List.drop_eq_getElem_cons (show i<unitL.length from q)]
    rw [List.getElem?_eq_getElem (show i<unitL.length from q)] at hx
    injection hx with hx
    rw [hx]
    rfl)
   have ix:=IX wr
   have X1:=hid (B4u.new wr 97 (.string o) (.int .i64 x) (.int .i64 y) (.int .i64 z))
   have B1:=hid (nextB BW.out (show Below wr.heap.size wr (wr.alloc (.cells #[.string o,.int .i64 x,.int .i64 y,.int .i64 z] 97)) from (Below.refl _ _).alloc (Nat.le_refl _) _))
   clear hx EH IX
   go_upto_region 6 with fail
   clear ix
   generalize World.alloc wr _=w1 at *
   generalize wr.heap.size=bb at *
   obtain ⟨c0,c1,c2,c3⟩:=X1.out
   cases y1:eqB o ⟨#[43]⟩ with
   | false =>
    have z1:(o.toList==[43])=false:=(eqL _ _).trans y1
    have FF:=hid (show fndU (unitL.drop (i+1)) ⟨#[43]⟩ a b=D from by rw [← SE.out,y1];simp)
    clear y1 SE
    go_wp2_with fail
    go_roundg (16 - (i+1))
    case measure=>omega
    case rel=>exact ⟨i+1,by omega,rfl,by rw [Int.natCast_add];rfl,B1.out,FF.out⟩
   | true =>
    have z1:(o.toList==[43])=true:=(eqL _ _).trans y1
    by_cases y2:x=a
    ·have z2:(x==a)=true:=by simpa using y2
     by_cases y3:y=b
     ·have z3:(y==b)=true:=by simpa using y3
      have FF:=hid (show z=D from by rw [← SE.out,if_pos ⟨y1,y2,y3⟩])
      clear y1 y2 y3 SE
      go_wp2_with fail
      go_returns
      exact ⟨by rw [FF.out];rfl,B1.out⟩
     ·have z3:(y==b)=false:=beqM _ _ y3
      have FF:=hid (show fndU (unitL.drop (i+1)) ⟨#[43]⟩ a b=D from by rw [← SE.out,if_neg (fun h=>y3 h.2.2)])
      clear y1 y2 y3 SE
      go_wp2_with fail
      go_roundg (16 - (i+1))
      case measure=>omega
      case rel=>exact ⟨i+1,by omega,rfl,by rw [Int.natCast_add];rfl,B1.out,FF.out⟩
    ·have z2:(x==a)=false:=beqM _ _ y2
     have FF:=hid (show fndU (unitL.drop (i+1)) ⟨#[43]⟩ a b=D from by rw [← SE.out,if_neg (fun h=>y2 h.2.1)])
     clear y1 y2 SE
     go_wp2_with fail
     go_roundg (16 - (i+1))
     case measure=>omega
     case rel=>exact ⟨i+1,by omega,rfl,by rw [Int.natCast_add];rfl,B1.out,FF.out⟩
  ·have q':¬ (i:Int)<16:=by omega
   have FF:D=0:=by rw [← EH.out,List.drop_eq_nil_of_le (by show 16≤i;omega)];rfl
   subst FF
   go_wp2_with fail
   go_returns
   exact ⟨rfl,BW.out⟩
set_option maxRecDepth 100000 in
set_option maxHeartbeats 4000000 in
theorem recM_sub (a b:Int) (w:World) (h:TabU w) :Calls Tryd.prog 62 #[.string ⟨#[45]⟩,.int .i64 a,.int .i64 b] w fun e w'=>e=.returned (.int .i64 (fndU unitL ⟨#[45]⟩ a b))∧Below w.heap.size w w':=by
 have HT:=hid h
 obtain ⟨D,hD⟩:∃ D,fndU unitL ⟨#[45]⟩ a b=D:=⟨_,rfl⟩
 have DH:=hid (show fndU (unitL.drop 0) ⟨#[45]⟩ a b=D from hD)
 rw [hD]
 clear h hD
 go_enter Tryd.func62,Tryd.ntmps62
 go_upto_region 3 with fail
 go_wp2_with (refine wpList_unit rfl rfl HT.out ?_)
 have TA:=hid (rfl:unitA=unitA)
 generalize hmA:unitA=mA at *
 go_loopg [18,6,8] (16) (fun g iv rv bv wr=>∃ i:Nat,i≤16∧g=16 - i∧iv=.int .i64 (i:Nat)∧Hid (Below w.heap.size w wr)∧Hid (fndU (unitL.drop i) ⟨#[45]⟩ a b=D))
 case atStart=>exact ⟨0,by omega,rfl,rfl,Below.refl _ _,DH.out⟩
 case round =>
  obtain ⟨i,hi,rfl,rfl,BW,EH⟩:=hrel
  by_cases q:i<16
  ·have q':(i:Int)<16:=by omega
   obtain ⟨⟨o,x,y,z⟩,hx⟩:∃ x,unitL[i]?=some x:=⟨_,List.getElem?_eq_getElem (by show i<16;exact q)⟩
   have IX:=idx_unit i _ hx
   rw [hmA] at IX
   dsimp only at IX
   have SE:=hid (show (if eqB o ⟨#[45]⟩=true∧x=a∧y=b then z else fndU (unitL.drop (i+1)) ⟨#[45]⟩ a b)=D from by
    rw [← EH.out,List.drop_eq_getElem_cons (show i<unitL.length from q)]
    rw [List.getElem?_eq_getElem (show i<unitL.length from q)] at hx
    injection hx with hx
    rw [hx]
    rfl)
   have ix:=IX wr
   have X1:=hid (B4u.new wr 97 (.string o) (.int .i64 x) (.int .i64 y) (.int .i64 z))
   have B1:=hid (nextB BW.out (show Below wr.heap.size wr (wr.alloc (.cells #[.string o,.int .i64 x,.int .i64 y,.int .i64 z] 97)) from (Below.refl _ _).alloc (Nat.le_refl _) _))
   clear hx EH IX
   go_upto_region 6 with fail
   clear ix
   generalize World.alloc wr _=w1 at *
   generalize wr.heap.size=bb at *
   obtain ⟨c0,c1,c2,c3⟩:=X1.out
   cases y1:eqB o ⟨#[45]⟩ with
   | false =>
    have z1:(o.toList==[45])=false:=(eqL _ _).trans y1
    have FF:=hid (show fndU (unitL.drop (i+1)) ⟨#[45]⟩ a b=D from by rw [← SE.out,y1];simp)
    clear y1 SE
    go_wp2_with fail
    go_roundg (16 - (i+1))
    case measure=>omega
    case rel=>exact ⟨i+1,by omega,rfl,by rw [Int.natCast_add];rfl,B1.out,FF.out⟩
   | true =>
    have z1:(o.toList==[45])=true:=(eqL _ _).trans y1
    by_cases y2:x=a
    ·have z2:(x==a)=true:=by simpa using y2
     by_cases y3:y=b
     ·have z3:(y==b)=true:=by simpa using y3
      have FF:=hid (show z=D from by rw [← SE.out,if_pos ⟨y1,y2,y3⟩])
      clear y1 y2 y3 SE
      go_wp2_with fail
      go_returns
      exact ⟨by rw [FF.out];rfl,B1.out⟩
     ·have z3:(y==b)=false:=beqM _ _ y3
      have FF:=hid (show fndU (unitL.drop (i+1)) ⟨#[45]⟩ a b=D from by rw [← SE.out,if_neg (fun h=>y3 h.2.2)])
      clear y1 y2 y3 SE
      go_wp2_with fail
      go_roundg (16 - (i+1))
      case measure=>omega
      case rel=>exact ⟨i+1,by omega,rfl,by rw [Int.natCast_add];rfl,B1.out,FF.out⟩
    ·have z2:(x==a)=false:=beqM _ _ y2
     have FF:=hid (show fndU (unitL.drop (i+1)) ⟨#[45]⟩ a b=D from by rw [← SE.out,if_neg (fun h=>y2 h.2.1)])
     clear y1 y2 SE
     go_wp2_with fail
     go_roundg (16 - (i+1))
     case measure=>omega
     case rel=>exact ⟨i+1,by omega,rfl,by rw [Int.natCast_add];rfl,B1.out,FF.out⟩
  ·have q':¬ (i:Int)<16:=by omega
   have FF:D=0:=by rw [← EH.out,List.drop_eq_nil_of_le (by show 16≤i;omega)];rfl
   subst FF
   go_wp2_with fail
   go_returns
   exact ⟨rfl,BW.out⟩
set_option maxRecDepth 100000 in
set_option maxHeartbeats 4000000 in
theorem recM_div (a b:Int) (w:World) (h:TabU w) :Calls Tryd.prog 62 #[.string ⟨#[47]⟩,.int .i64 a,.int .i64 b] w fun e w'=>e=.returned (.int .i64 (fndU unitL ⟨#[47]⟩ a b))∧Below w.heap.size w w':=by
 have HT:=hid h
 obtain ⟨D,hD⟩:∃ D,fndU unitL ⟨#[47]⟩ a b=D:=⟨_,rfl⟩
 have DH:=hid (show fndU (unitL.drop 0) ⟨#[47]⟩ a b=D from hD)
 rw [hD]
 clear h hD
 go_enter Tryd.func62,Tryd.ntmps62
 go_upto_region 3 with fail
 go_wp2_with (refine wpList_unit rfl rfl HT.out ?_)
 have TA:=hid (rfl:unitA=unitA)
 generalize hmA:unitA=mA at *
 go_loopg [18,6,8] (16) (fun g iv rv bv wr=>∃ i:Nat,i≤16∧g=16 - i∧iv=.int .i64 (i:Nat)∧Hid (Below w.heap.size w wr)∧Hid (fndU (unitL.drop i) ⟨#[47]⟩ a b=D))
 case atStart=>exact ⟨0,by omega,rfl,rfl,Below.refl _ _,DH.out⟩
 case round =>
  obtain ⟨i,hi,rfl,rfl,BW,EH⟩:=hrel
  by_cases q:i<16
  ·have q':(i:Int)<16:=by omega
   obtain ⟨⟨o,x,y,z⟩,hx⟩:∃ x,unitL[i]?=some x:=⟨_,List.getElem?_eq_getElem (by show i<16;exact q)⟩
   have IX:=idx_unit i _ hx
   rw [hmA] at IX
   dsimp only at IX
   have SE:=hid (show (if eqB o ⟨#[47]⟩=true∧x=a∧y=b then z else fndU (unitL.drop (i+1)) ⟨#[47]⟩ a b)=D from by
    rw [← EH.out,List.drop_eq_getElem_cons (show i<unitL.length from q)]
    rw [List.getElem?_eq_getElem (show i<unitL.length from q)] at hx
    injection hx with hx
    rw [hx]
    rfl)
   have ix:=IX wr
   have X1:=hid (B4u.new wr 97 (.string o) (.int .i64 x) (.int .i64 y) (.int .i64 z))
   have B1:=hid (nextB BW.out (show Below wr.heap.size wr (wr.alloc (.cells #[.string o,.int .i64 x,.int .i64 y,.int .i64 z] 97)) from (Below.refl _ _).alloc (Nat.le_refl _) _))
   clear hx EH IX
   go_upto_region 6 with fail
   clear ix
   generalize World.alloc wr _=w1 at *
   generalize wr.heap.size=bb at *
   obtain ⟨c0,c1,c2,c3⟩:=X1.out
   cases y1:eqB o ⟨#[47]⟩ with
   | false =>
    have z1:(o.toList==[47])=false:=(eqL _ _).trans y1
    have FF:=hid (show fndU (unitL.drop (i+1)) ⟨#[47]⟩ a b=D from by rw [← SE.out,y1];simp)
    clear y1 SE
    go_wp2_with fail
    go_roundg (16 - (i+1))
    case measure=>omega
    case rel=>exact ⟨i+1,by omega,rfl,by rw [Int.natCast_add];rfl,B1.out,FF.out⟩
   | true =>
    have z1:(o.toList==[47])=true:=(eqL _ _).trans y1
    by_cases y2:x=a
    ·have z2:(x==a)=true:=by simpa using y2
     by_cases y3:y=b
     ·have z3:(y==b)=true:=by simpa using y3
      have FF:=hid (show z=D from by rw [← SE.out,if_pos ⟨y1,y2,y3⟩])
      clear y1 y2 y3 SE
      go_wp2_with fail
      go_returns
      exact ⟨by rw [FF.out];rfl,B1.out⟩
     ·have z3:(y==b)=false:=beqM _ _ y3
      have FF:=hid (show fndU (unitL.drop (i+1)) ⟨#[47]⟩ a b=D from by rw [← SE.out,if_neg (fun h=>y3 h.2.2)])
      clear y1 y2 y3 SE
      go_wp2_with fail
      go_roundg (16 - (i+1))
      case measure=>omega
      case rel=>exact ⟨i+1,by omega,rfl,by rw [Int.natCast_add];rfl,B1.out,FF.out⟩
    ·have z2:(x==a)=false:=beqM _ _ y2
     have FF:=hid (show fndU (unitL.drop (i+1)) ⟨#[47]⟩ a b=D from by rw [← SE.out,if_neg (fun h=>y2 h.2.1)])
     clear y1 y2 SE
     go_wp2_with fail
     go_roundg (16 - (i+1))
     case measure=>omega
     case rel=>exact ⟨i+1,by omega,rfl,by rw [Int.natCast_add];rfl,B1.out,FF.out⟩
  ·have q':¬ (i:Int)<16:=by omega
   have FF:D=0:=by rw [← EH.out,List.drop_eq_nil_of_le (by show 16≤i;omega)];rfl
   subst FF
   go_wp2_with fail
   go_returns
   exact ⟨rfl,BW.out⟩
set_option maxRecDepth 100000 in
set_option maxHeartbeats 4000000 in
theorem recM_lt (a b:Int) (w:World) (h:TabU w) (h1:a<b) (h2:¬ b<a) (h3:a≤b) (h4:¬ b≤a):Calls Tryd.prog 62 #[.string ⟨#[42]⟩,.int .i64 a,.int .i64 b] w fun e w'=>e=.returned (.int .i64 (fndU unitL ⟨#[42]⟩ b a))∧Below w.heap.size w w':=by
 have HT:=hid h
 obtain ⟨D,hD⟩:∃ D,fndU unitL ⟨#[42]⟩ b a=D:=⟨_,rfl⟩
 have DH:=hid (show fndU (unitL.drop 0) ⟨#[42]⟩ b a=D from hD)
 rw [hD]
 clear h hD
 go_enter Tryd.func62,Tryd.ntmps62
 go_upto_region 3 with fail
 go_wp2_with (refine wpList_unit rfl rfl HT.out ?_)
 have TA:=hid (rfl:unitA=unitA)
 generalize hmA:unitA=mA at *
 go_loopg [18,6,8] (16) (fun g iv rv bv wr=>∃ i:Nat,i≤16∧g=16 - i∧iv=.int .i64 (i:Nat)∧Hid (Below w.heap.size w wr)∧Hid (fndU (unitL.drop i) ⟨#[42]⟩ b a=D))
 case atStart=>exact ⟨0,by omega,rfl,rfl,Below.refl _ _,DH.out⟩
 case round =>
  obtain ⟨i,hi,rfl,rfl,BW,EH⟩:=hrel
  by_cases q:i<16
  ·have q':(i:Int)<16:=by omega
   obtain ⟨⟨o,x,y,z⟩,hx⟩:∃ x,unitL[i]?=some x:=⟨_,List.getElem?_eq_getElem (by show i<16;exact q)⟩
   have IX:=idx_unit i _ hx
   rw [hmA] at IX
   dsimp only at IX
   have SE:=hid (show (if eqB o ⟨#[42]⟩=true∧x=b∧y=a then z else fndU (unitL.drop (i+1)) ⟨#[42]⟩ b a)=D from by
    rw [← EH.out,List.drop_eq_getElem_cons (show i<unitL.length from q)]
    rw [List.getElem?_eq_getElem (show i<unitL.length from q)] at hx
    injection hx with hx
    rw [hx]
    rfl)
   have ix:=IX wr
   have X1:=hid (B4u.new wr 97 (.string o) (.int .i64 x) (.int .i64 y) (.int .i64 z))
   have B1:=hid (nextB BW.out (show Below wr.heap.size wr (wr.alloc (.cells #[.string o,.int .i64 x,.int .i64 y,.int .i64 z] 97)) from (Below.refl _ _).alloc (Nat.le_refl _) _))
   clear hx EH IX
   go_upto_region 6 with fail
   clear ix
   generalize World.alloc wr _=w1 at *
   generalize wr.heap.size=bb at *
   obtain ⟨c0,c1,c2,c3⟩:=X1.out
   cases y1:eqB o ⟨#[42]⟩ with
   | false =>
    have z1:(o.toList==[42])=false:=(eqL _ _).trans y1
    have FF:=hid (show fndU (unitL.drop (i+1)) ⟨#[42]⟩ b a=D from by rw [← SE.out,y1];simp)
    clear y1 SE
    go_wp2_with fail
    go_roundg (16 - (i+1))
    case measure=>omega
    case rel=>exact ⟨i+1,by omega,rfl,by rw [Int.natCast_add];rfl,B1.out,FF.out⟩
   | true =>
    have z1:(o.toList==[42])=true:=(eqL _ _).trans y1
    by_cases y2:x=b
    ·have z2:(x==b)=true:=by simpa using y2
     by_cases y3:y=a
     ·have z3:(y==a)=true:=by simpa using y3
      have FF:=hid (show z=D from by rw [← SE.out,if_pos ⟨y1,y2,y3⟩])
      clear y1 y2 y3 SE
      go_wp2_with fail
      go_returns
      exact ⟨by rw [FF.out];rfl,B1.out⟩
     ·have z3:(y==a)=false:=beqM _ _ y3
      have FF:=hid (show fndU (unitL.drop (i+1)) ⟨#[42]⟩ b a=D from by rw [← SE.out,if_neg (fun h=>y3 h.2.2)])
      clear y1 y2 y3 SE
      go_wp2_with fail
      go_roundg (16 - (i+1))
      case measure=>omega
      case rel=>exact ⟨i+1,by omega,rfl,by rw [Int.natCast_add];rfl,B1.out,FF.out⟩
    ·have z2:(x==b)=false:=beqM _ _ y2
     have FF:=hid (show fndU (unitL.drop (i+1)) ⟨#[42]⟩ b a=D from by rw [← SE.out,if_neg (fun h=>y2 h.2.1)])
     clear y1 y2 SE
     go_wp2_with fail
     go_roundg (16 - (i+1))
     case measure=>omega
     case rel=>exact ⟨i+1,by omega,rfl,by rw [Int.natCast_add];rfl,B1.out,FF.out⟩
  ·have q':¬ (i:Int)<16:=by omega
   have FF:D=0:=by rw [← EH.out,List.drop_eq_nil_of_le (by show 16≤i;omega)];rfl
   subst FF
   go_wp2_with fail
   go_returns
   exact ⟨rfl,BW.out⟩
set_option maxRecDepth 100000 in
set_option maxHeartbeats 4000000 in
theorem recM_gt (a b:Int) (w:World) (h:TabU w) (h1:b<a) (h2:¬ a<b) (h3:b≤a) (h4:¬ a≤b):Calls Tryd.prog 62 #[.string ⟨#[42]⟩,.int .i64 a,.int .i64 b] w fun e w'=>e=.returned (.int .i64 (fndU unitL ⟨#[42]⟩ a b))∧Below w.heap.size w w':=by
 have HT:=hid h
 obtain ⟨D,hD⟩:∃ D,fndU unitL ⟨#[42]⟩ a b=D:=⟨_,rfl⟩
 have DH:=hid (show fndU (unitL.drop 0) ⟨#[42]⟩ a b=D from hD)
 rw [hD]
 clear h hD
 go_enter Tryd.func62,Tryd.ntmps62
 go_upto_region 3 with fail
 go_wp2_with (refine wpList_unit rfl rfl HT.out ?_)
 have TA:=hid (rfl:unitA=unitA)
 generalize hmA:unitA=mA at *
 go_loopg [18,6,8] (16) (fun g iv rv bv wr=>∃ i:Nat,i≤16∧g=16 - i∧iv=.int .i64 (i:Nat)∧Hid (Below w.heap.size w wr)∧Hid (fndU (unitL.drop i) ⟨#[42]⟩ a b=D))
 case atStart=>exact ⟨0,by omega,rfl,rfl,Below.refl _ _,DH.out⟩
 case round =>
  obtain ⟨i,hi,rfl,rfl,BW,EH⟩:=hrel
  by_cases q:i<16
  ·have q':(i:Int)<16:=by omega
   obtain ⟨⟨o,x,y,z⟩,hx⟩:∃ x,unitL[i]?=some x:=⟨_,List.getElem?_eq_getElem (by show i<16;exact q)⟩
   have IX:=idx_unit i _ hx
   rw [hmA] at IX
   dsimp only at IX
   have SE:=hid (show (if eqB o ⟨#[42]⟩=true∧x=a∧y=b then z else fndU (unitL.drop (i+1)) ⟨#[42]⟩ a b)=D from by
    rw [← EH.out,List.drop_eq_getElem_cons (show i<unitL.length from q)]
    rw [List.getElem?_eq_getElem (show i<unitL.length from q)] at hx
    injection hx with hx
    rw [hx]
    rfl)
   have ix:=IX wr
   have X1:=hid (B4u.new wr 97 (.string o) (.int .i64 x) (.int .i64 y) (.int .i64 z))
   have B1:=hid (nextB BW.out (show Below wr.heap.size wr (wr.alloc (.cells #[.string o,.int .i64 x,.int .i64 y,.int .i64 z] 97)) from (Below.refl _ _).alloc (Nat.le_refl _) _))
   clear hx EH IX
   go_upto_region 6 with fail
   clear ix
   generalize World.alloc wr _=w1 at *
   generalize wr.heap.size=bb at *
   obtain ⟨c0,c1,c2,c3⟩:=X1.out
   cases y1:eqB o ⟨#[42]⟩ with
   | false =>
    have z1:(o.toList==[42])=false:=(eqL _ _).trans y1
    have FF:=hid (show fndU (unitL.drop (i+1)) ⟨#[42]⟩ a b=D from by rw [← SE.out,y1];simp)
    clear y1 SE
    go_wp2_with fail
    go_roundg (16 - (i+1))
    case measure=>omega
    case rel=>exact ⟨i+1,by omega,rfl,by rw [Int.natCast_add];rfl,B1.out,FF.out⟩
   | true =>
    have z1:(o.toList==[42])=true:=(eqL _ _).trans y1
    by_cases y2:x=a
    ·have z2:(x==a)=true:=by simpa using y2
     by_cases y3:y=b
     ·have z3:(y==b)=true:=by simpa using y3
      have FF:=hid (show z=D from by rw [← SE.out,if_pos ⟨y1,y2,y3⟩])
      clear y1 y2 y3 SE
      go_wp2_with fail
      go_returns
      exact ⟨by rw [FF.out];rfl,B1.out⟩
     ·have z3:(y==b)=false:=beqM _ _ y3
      have FF:=hid (show fndU (unitL.drop (i+1)) ⟨#[42]⟩ a b=D from by rw [← SE.out,if_neg (fun h=>y3 h.2.2)])
      clear y1 y2 y3 SE
      go_wp2_with fail
      go_roundg (16 - (i+1))
      case measure=>omega
      case rel=>exact ⟨i+1,by omega,rfl,by rw [Int.natCast_add];rfl,B1.out,FF.out⟩
    ·have z2:(x==a)=false:=beqM _ _ y2
     have FF:=hid (show fndU (unitL.drop (i+1)) ⟨#[42]⟩ a b=D from by rw [← SE.out,if_neg (fun h=>y2 h.2.1)])
     clear y1 y2 SE
     go_wp2_with fail
     go_roundg (16 - (i+1))
     case measure=>omega
     case rel=>exact ⟨i+1,by omega,rfl,by rw [Int.natCast_add];rfl,B1.out,FF.out⟩
  ·have q':¬ (i:Int)<16:=by omega
   have FF:D=0:=by rw [← EH.out,List.drop_eq_nil_of_le (by show 16≤i;omega)];rfl
   subst FF
   go_wp2_with fail
   go_returns
   exact ⟨rfl,BW.out⟩
set_option maxRecDepth 100000 in
set_option maxHeartbeats 4000000 in
theorem recM_eq (a b:Int) (w:World) (h:TabU w) (h1:a=b):Calls Tryd.prog 62 #[.string ⟨#[42]⟩,.int .i64 a,.int .i64 b] w fun e w'=>e=.returned (.int .i64 (fndU unitL ⟨#[42]⟩ a a))∧Below w.heap.size w w':=by
 have HT:=hid h
 obtain ⟨D,hD⟩:∃ D,fndU unitL ⟨#[42]⟩ a a=D:=⟨_,rfl⟩
 have DH:=hid (show fndU (unitL.drop 0) ⟨#[42]⟩ a a=D from hD)
 rw [hD]
 clear h hD
 subst h1
 go_enter Tryd.func62,Tryd.ntmps62
 go_upto_region 3 with fail
 go_wp2_with (refine wpList_unit rfl rfl HT.out ?_)
 have TA:=hid (rfl:unitA=unitA)
 generalize hmA:unitA=mA at *
 go_loopg [18,6,8] (16) (fun g iv rv bv wr=>∃ i:Nat,i≤16∧g=16 - i∧iv=.int .i64 (i:Nat)∧Hid (Below w.heap.size w wr)∧Hid (fndU (unitL.drop i) ⟨#[42]⟩ a a=D))
 case atStart=>exact ⟨0,by omega,rfl,rfl,Below.refl _ _,DH.out⟩
 case round =>
  obtain ⟨i,hi,rfl,rfl,BW,EH⟩:=hrel
  by_cases q:i<16
  ·have q':(i:Int)<16:=by omega
   obtain ⟨⟨o,x,y,z⟩,hx⟩:∃ x,unitL[i]?=some x:=⟨_,List.getElem?_eq_getElem (by show i<16;exact q)⟩
   have IX:=idx_unit i _ hx
   rw [hmA] at IX
   dsimp only at IX
   have SE:=hid (show (if eqB o ⟨#[42]⟩=true∧x=a∧y=a then z else fndU (unitL.drop (i+1)) ⟨#[42]⟩ a a)=D from by
    rw [← EH.out,List.drop_eq_getElem_cons (show i<unitL.length from q)]
    rw [List.getElem?_eq_getElem (show i<unitL.length from q)] at hx
    injection hx with hx
    rw [hx]
    rfl)
   have ix:=IX wr
   have X1:=hid (B4u.new wr 97 (.string o) (.int .i64 x) (.int .i64 y) (.int .i64 z))
   have B1:=hid (nextB BW.out (show Below wr.heap.size wr (wr.alloc (.cells #[.string o,.int .i64 x,.int .i64 y,.int .i64 z] 97)) from (Below.refl _ _).alloc (Nat.le_refl _) _))
   clear hx EH IX
   go_upto_region 6 with fail
   clear ix
   generalize World.alloc wr _=w1 at *
   generalize wr.heap.size=bb at *
   obtain ⟨c0,c1,c2,c3⟩:=X1.out
   cases y1:eqB o ⟨#[42]⟩ with
   | false =>
    have z1:(o.toList==[42])=false:=(eqL _ _).trans y1
    have FF:=hid (show fndU (unitL.drop (i+1)) ⟨#[42]⟩ a a=D from by rw [← SE.out,y1];simp)
    clear y1 SE
    go_wp2_with fail
    go_roundg (16 - (i+1))
    case measure=>omega
    case rel=>exact ⟨i+1,by omega,rfl,by rw [Int.natCast_add];rfl,B1.out,FF.out⟩
   | true =>
    have z1:(o.toList==[42])=true:=(eqL _ _).trans y1
    by_cases y2:x=a
    ·have z2:(x==a)=true:=by simpa using y2
     by_cases y3:y=a
     ·have z3:(y==a)=true:=by simpa using y3
      have FF:=hid (show z=D from by rw [← SE.out,if_pos ⟨y1,y2,y3⟩])
      clear y1 y2 y3 SE
      go_wp2_with fail
      go_returns
      exact ⟨by rw [FF.out];rfl,B1.out⟩
     ·have z3:(y==a)=false:=beqM _ _ y3
      have FF:=hid (show fndU (unitL.drop (i+1)) ⟨#[42]⟩ a a=D from by rw [← SE.out,if_neg (fun h=>y3 h.2.2)])
      clear y1 y2 y3 SE
      go_wp2_with fail
      go_roundg (16 - (i+1))
      case measure=>omega
      case rel=>exact ⟨i+1,by omega,rfl,by rw [Int.natCast_add];rfl,B1.out,FF.out⟩
    ·have z2:(x==a)=false:=beqM _ _ y2
     have FF:=hid (show fndU (unitL.drop (i+1)) ⟨#[42]⟩ a a=D from by rw [← SE.out,if_neg (fun h=>y2 h.2.1)])
     clear y1 y2 SE
     go_wp2_with fail
     go_roundg (16 - (i+1))
     case measure=>omega
     case rel=>exact ⟨i+1,by omega,rfl,by rw [Int.natCast_add];rfl,B1.out,FF.out⟩
  ·have q':¬ (i:Int)<16:=by omega
   have FF:D=0:=by rw [← EH.out,List.drop_eq_nil_of_le (by show 16≤i;omega)];rfl
   subst FF
   go_wp2_with fail
   go_returns
   exact ⟨rfl,BW.out⟩
theorem reckM_any (op:ByteArray) (ho:op=⟨#[43]⟩∨op=⟨#[45]⟩∨op=⟨#[42]⟩∨op=⟨#[47]⟩) (a b:Int) (w:World) (h:TabU w):Calls Tryd.prog 62 #[.string op,.int .i64 a,.int .i64 b] w fun e w'=>e=.returned (.int .i64 (outF op a b))∧Below w.heap.size w w':=by
 rcases ho with rfl | rfl | rfl | rfl
 ·rw [show outF ⟨#[43]⟩ a b=fndU unitL ⟨#[43]⟩ a b from rfl];exact recM_add a b w h
 ·rw [show outF ⟨#[45]⟩ a b=fndU unitL ⟨#[45]⟩ a b from rfl];exact recM_sub a b w h
 ·rw [show outF ⟨#[42]⟩ a b=fndU unitL ⟨#[42]⟩ (max a b) (min a b) from rfl]
  rcases Int.lt_trichotomy a b with q | q | q
  ·rw [show max a b=b by omega,show min a b=a by omega];exact recM_lt a b w h q (by omega) (by omega) (by omega)
  ·subst q;rw [show max a a=a by omega,show min a a=a by omega];exact recM_eq a a w h rfl
  ·rw [show max a b=a by omega,show min a b=b by omega];exact recM_gt a b w h q (by omega) (by omega) (by omega)
 ·rw [show outF ⟨#[47]⟩ a b=fndU unitL ⟨#[47]⟩ a b from rfl];exact recM_div a b w h
end Go.Proofs.YtbeahnehjannpaaDoor
