/- Parts of the proof. -/
import Derived.Test.YteknljnjcoehoaaGreatDoorKU
import Derived.BigQuiet
import Derived.Test.YteknljnjcoehoaaGreatDoorKE
import Derived.Deep.RegionHeld3
import Derived.Deep.CutBlock
import Derived.MapKept
import Derived.Laws.Rows
namespace Go.Proofs.YteknljnjcoehoaaGreatDoor
open Go.RowKit
set_option linter.unusedVariables false
set_option linter.unusedSimpArgs false

def binK (op:ByteArray) (a b:Int):Int :=
 if eqB op ⟨#[43]⟩=true then (if (a=b∧2≤a∧a≤4)∨(a=5∧b=2) then a else 0)
 else if eqB op ⟨#[45]⟩=true then (if (a=b∧2≤a∧a≤4)∨(a=5∧b=2) then a else if a=5∧b=5 then 2 else 0)
 else if eqB op ⟨#[42]⟩=true then (if a > b then (if b=2∧2≤a∧a≤4 then a else if b=3∧a=4 then 3 else 0) else (if a=2∧2≤b∧b≤4 then b else if a=3∧b=4 then 3 else 0))
 else if eqB op ⟨#[47]⟩=true then (if b=2∧(a=2∨a=3) then a else if a=3∧b=3 then 4 else 0)
 else if eqB op ⟨#[60]⟩=true then (if a=b∧2≤a∧a≤5 then 1 else 0)
 else if eqB op ⟨#[60,61]⟩=true then (if a=b∧2≤a∧a≤5 then 1 else 0)
 else if eqB op ⟨#[62]⟩=true then (if a=b∧2≤a∧a≤5 then 1 else 0)
 else if eqB op ⟨#[62,61]⟩=true then (if a=b∧2≤a∧a≤5 then 1 else 0)
 else if eqB op ⟨#[61,61]⟩=true then (if a=b∧1≤a∧a≤5 then 1 else 0)
 else if eqB op ⟨#[33,61]⟩=true then (if a=b∧1≤a∧a≤5 then 1 else 0)
 else if eqB op ⟨#[97,110,100]⟩=true then (if a=1∧b=1 then 1 else 0)
 else if eqB op ⟨#[111,114]⟩=true then (if a=1∧b=1 then 1 else 0)
 else if eqB op ⟨#[109,105,110]⟩=true then (if a=b∧2≤a∧a≤5 then a else 0)
 else if eqB op ⟨#[109,97,120]⟩=true then (if a=b∧2≤a∧a≤5 then a else 0)
 else 0
theorem Below.put6Y {a b:World} {q:Nat} {B:Nat} (h:Below B a b) (hq:B≤q) (v0 v1 v2 v3 v4 v5:Value):Below B a ((((((b.setCell ⟨q,0,none⟩ v0).setCell ⟨q,1,none⟩ v1).setCell ⟨q,2,none⟩ v2).setCell ⟨q,3,none⟩ v3).setCell ⟨q,4,none⟩ v4).setCell ⟨q,5,none⟩ v5) :=
 (((((h.setCell (p:=⟨q,0,none⟩) hq v0).setCell (p:=⟨q,1,none⟩) hq v1).setCell (p:=⟨q,2,none⟩) hq v2).setCell (p:=⟨q,3,none⟩) hq v3).setCell (p:=⟨q,4,none⟩) hq v4).setCell (p:=⟨q,5,none⟩) hq v5
theorem Nd.lenY {w:World} {S:Nat→Prop} {v:Value} {ts:List Tr} (h:Nd w S v ts):∃ a c,v=.slice a ts.length c:=by
 cases h with
 | nil=>exact ⟨_,_,rfl⟩
 | row g c ts sl hs h0 hc hk=>exact ⟨_,_,rfl⟩
theorem Nd.atY {w:World} {S:Nat→Prop} {v:Value} {ts:List Tr} (h:Nd w S v ts) (i:Nat) (t:Tr) (hi:ts[i]?=some t):∃ (g c:Nat) (s:Value),v=.slice (some ⟨g,0,none⟩) ts.length c∧NC w g (i*6) t s∧Nd w S s t.kids:=by
 cases h with
 | nil=>simp at hi
 | row g c ts sl hs h0 hc hk=>exact ⟨g,c,sl i,rfl,hc i t hi,hk i t hi⟩
theorem Nd.gwY {w w':World} {S:Nat→Prop} {v:Value} {ts:List Tr} (h:Nd w S v ts) (q:Below w.heap.size w w'):Nd w' S v ts:=h.keep fun g s l=>⟨s,q.block g l⟩
structure MapS (w:World) (b:Nat) (l:List (ByteArray × Value)):Prop where
 ex:∃ es c,w.heap[b]?=some (.map es c)∧(es.toList.map fun e=>(e.key,e.val))=l.map fun x=>(Value.string x.1,x.2)
theorem MapS.lt {w:World} {b:Nat} {l:List (ByteArray × Value)} (h:MapS w b l):b<w.heap.size:=by
 obtain ⟨es,c,h1,_⟩:=h.ex
 exact (Array.getElem?_eq_some_iff.1 h1).1
theorem MapS.kept {w w':World} {b:Nat} {l:List (ByteArray × Value)} (h:MapS w b l) (k:w'.heap[b]?=w.heap[b]?):MapS w' b l:=by
 obtain ⟨es,c,h1,h2⟩:=h.ex
 exact ⟨es,c,by rw [k];exact h1,h2⟩
theorem MapS.new (w:World):MapS (w.alloc (.map #[] 0)) w.heap.size []:=⟨#[],0,heap_alloc_new w _,rfl⟩
def atM:List (ByteArray × Value)→ByteArray→Option Value
 | [],_=>none
 | x :: l,k=>if k=x.1 then some x.2 else atM l k
def setM:List (ByteArray × Value)→ByteArray→Value→List (ByteArray × Value)
 | [],k,v=>[(k,v)]
 | x :: l,k,v=>if k=x.1 then (k,v) :: l else x :: setM l k v
theorem at_set (l:List (ByteArray × Value)) (k:ByteArray) (v:Value) (j:ByteArray):atM (setM l k v) j=if j=k then some v else atM l j:=by
 induction l with
 | nil=>rfl
 | cons x l ih =>
  unfold setM
  by_cases c:k=x.1
  ·rw [if_pos c]
   unfold atM
   by_cases d:j=k
   ·rw [if_pos d,if_pos d]
   ·rw [if_neg d,if_neg d,if_neg (by rw [← c];exact d)]
  ·rw [if_neg c]
   unfold atM
   rw [ih]
   by_cases d:j=x.1
   ·rw [if_pos d,if_pos d,if_neg (by rw [d];exact fun e=>c e.symm)]
   ·rw [if_neg d,if_neg d]
theorem findNow_atM (k:ByteArray):∀ (l:List (ByteArray × Value)) (es:List MapEntry) (i:Nat),(es.map fun e=>(e.key,e.val))=(l.map fun x=>(Value.string x.1,x.2)) →
  ∃ j,Instr.findNow .string (.string k) es i=some ((atM l k).map fun v=>(i+j,v))∧((atM l k).isSome→∃ e,es[j]?=some e∧e.key=.string k∧es.map (fun e=>(e.key,e.val))=l.map (fun x=>(Value.string x.1,x.2))∧∀ v,((es.modify j fun e=>{ e with key:=.string k,val:=v }).map fun e=>(e.key,e.val))=(setM l k v).map fun x=>(Value.string x.1,x.2))∧((atM l k)=none→∀ v,setM l k v=l ++ [(k,v)])
 | [],es,i,h=>by
  have e:es=[]:=by simpa using h
  subst e
  exact ⟨0,rfl,fun q=>(by cases q),fun _ v=>rfl⟩
 | x :: l,es,i,h=>by
  cases es with
  | nil=>simp at h
  | cons e es =>
   simp only [List.map_cons,List.cons.injEq,Prod.mk.injEq] at h
   obtain ⟨⟨hk,hv⟩,ht⟩:=h
   by_cases c:k=x.1
   ·have cz:(k==x.1)=true:=(Go.MapKept.bytes_beq _ _).2 c
    refine ⟨0,?_,fun _=>⟨e,rfl,by rw [hk,c],?_,fun v=>?_⟩,fun q=>?_⟩
    ·unfold Instr.findNow atM
     rw [if_pos c,hk]
     simp only [Instr.sameNow,cz,hv]
     rfl
    ·simp [hk,hv,ht]
    ·unfold setM
     rw [if_pos c]
     simp [ht]
    ·unfold atM at q
     rw [if_pos c] at q
     cases q
   ·obtain ⟨j,h1,h2,h3⟩:=findNow_atM k l es (i+1) ht
    have cz:(k==x.1)=false:=by
     cases y:(k==x.1) with
     | false=>rfl
     | true=>exact absurd ((Go.MapKept.bytes_beq _ _).1 y) c
    refine ⟨j+1,?_,fun q=>?_,fun q v=>?_⟩
    ·unfold Instr.findNow atM
     rw [if_neg c,hk]
     simp only [Instr.sameNow,cz,if_true]
     rw [h1,show i+1+j=i+(j+1) by omega]
    ·unfold atM at q
     rw [if_neg c] at q
     obtain ⟨e',g1,g2,g3,g4⟩:=h2 q
     refine ⟨e',by simpa using g1,g2,by simp [hk,hv,g3],fun v=>?_⟩
     unfold setM
     rw [if_neg c]
     simp [hk,hv,g4 v]
    ·unfold atM at q
     rw [if_neg c] at q
     unfold setM
     rw [if_neg c,h3 q v]
     rfl
theorem lookM2 {T E:TypeId} {z:Value} (w:World) (b:Nat) (k:ByteArray) (l:List (ByteArray × Value)) (h:MapS w b l) (ht:Tryz.prog.underlying T=some (.map 9 E)) (hz:∀ w,(zeroValue E).run Tryz.prog w=.ok z w) :
  (Instr.lookup T (.map (some b)) (.string k) true).run Tryz.prog w=.ok (.tuple #[(atM l k).getD z,.bool (atM l k).isSome]) w:=by
 obtain ⟨es,c,h1,h2⟩:=h.ex
 obtain ⟨j,f1,_,_⟩:=findNow_atM k l es.toList 0 h2
 have hu:Tryz.prog.underlying 9=some .string:=Tryz.underlying9
 have ck:(Instr.checkKey es.isEmpty 10000 9 (.string k)).run Tryz.prog w=.ok () w:=Go.MapKept.run_checkKey hu (by simp [Go.MapKept.IsKey]) _ 9999
 have g:(getObj b).run Tryz.prog w=.ok (.map es c) w:=Go.MapKept.run_getObj_map h1
 have fk:(Instr.findKey 9 (.string k) es.toList).run Tryz.prog w=.ok ((atM l k).map fun v=>(0+j,v)) w:=Go.MapKept.run_findKey hu f1
 cases hv:atM l k with
 | none =>
  rw [hv] at fk
  simp [Instr.lookup,run_underlying ht,g,ck,fk,hz]
 | some v =>
  rw [hv] at fk
  simp [Instr.lookup,run_underlying ht,g,ck,fk]
theorem lookM1 {T E:TypeId} {z:Value} (w:World) (b:Nat) (k:ByteArray) (l:List (ByteArray × Value)) (h:MapS w b l) (ht:Tryz.prog.underlying T=some (.map 9 E)) (hz:∀ w,(zeroValue E).run Tryz.prog w=.ok z w) :
  (Instr.lookup T (.map (some b)) (.string k) false).run Tryz.prog w=.ok ((atM l k).getD z) w:=by
 obtain ⟨es,c,h1,h2⟩:=h.ex
 obtain ⟨j,f1,_,_⟩:=findNow_atM k l es.toList 0 h2
 have hu:Tryz.prog.underlying 9=some .string:=Tryz.underlying9
 have ck:(Instr.checkKey es.isEmpty 10000 9 (.string k)).run Tryz.prog w=.ok () w:=Go.MapKept.run_checkKey hu (by simp [Go.MapKept.IsKey]) _ 9999
 have g:(getObj b).run Tryz.prog w=.ok (.map es c) w:=Go.MapKept.run_getObj_map h1
 have fk:(Instr.findKey 9 (.string k) es.toList).run Tryz.prog w=.ok ((atM l k).map fun v=>(0+j,v)) w:=Go.MapKept.run_findKey hu f1
 cases hv:atM l k with
 | none =>
  rw [hv] at fk
  simp [Instr.lookup,run_underlying ht,g,ck,fk,hz]
 | some v =>
  rw [hv] at fk
  simp [Instr.lookup,run_underlying ht,g,ck,fk]
theorem storeM {T E:TypeId} (w:World) (b:Nat) (k:ByteArray) (v:Value) (l:List (ByteArray × Value)) (h:MapS w b l) (ht:Tryz.prog.underlying T=some (.map 9 E)) :
  ∃ w',(Instr.mapUpdate T (.map (some b)) (.string k) v).run Tryz.prog w=.ok () w'∧MapS w' b (setM l k v)∧w.grownBy w' (some b):=by
 obtain ⟨es,c,h1,h2⟩:=h.ex
 obtain ⟨j,f1,f2,f3⟩:=findNow_atM k l es.toList 0 h2
 have bl:=h.lt
 have hu:Tryz.prog.underlying 9=some .string:=Tryz.underlying9
 have ck:(Instr.checkKey false 10000 9 (.string k)).run Tryz.prog w=.ok () w:=Go.MapKept.run_checkKey hu (by simp [Go.MapKept.IsKey]) _ 9999
 have g:(getObj b).run Tryz.prog w=.ok (.map es c) w:=Go.MapKept.run_getObj_map h1
 have fk:(Instr.findKey 9 (.string k) es.toList).run Tryz.prog w=.ok ((atM l k).map fun v=>(0+j,v)) w:=Go.MapKept.run_findKey hu f1
 have gb:∀ o,w.grownBy { w with heap:=w.heap.setIfInBounds b o } (some b):=fun o=>⟨rfl,rfl,rfl,by simp,fun i _ hi=>by
  have:b≠i:=fun e=>hi (by rw [e])
  simp [Array.getElem?_setIfInBounds,this]⟩
 have hb:∀ o,({ w with heap:=w.heap.setIfInBounds b o }:World).heap[b]?=some o:=fun o=>by simp [Array.getElem?_setIfInBounds,bl]
 cases hv:atM l k with
 | none =>
  rw [hv] at fk
  refine ⟨_,?_,⟨_,_,hb (.map (es.push { key:=.string k,val:=v,born:=c }) (c+1)),?_⟩,gb _⟩
  ·simp [Instr.mapUpdate,run_underlying ht,g,ck,fk,Go.MapKept.run_setObj_map _ h1]
  ·rw [f3 hv v]
   simp [h2]
 | some u =>
  rw [hv] at fk
  obtain ⟨e,e1,e2,_,e4⟩:=f2 (by rw [hv];rfl)
  have ej:es[j]?=some e:=by rw [← Array.getElem?_toList];exact e1
  have ks:(Instr.keyThatStays (.string k) (.string k)).run Tryz.prog w=.ok (.string k) w:=Go.MapKept.run_keyThatStays (d:=.string) trivial
  refine ⟨_,?_,⟨_,_,hb (.map (es.modify j fun e=>{ e with key:=.string k,val:=v }) c),?_⟩,gb _⟩
  ·simp [Instr.mapUpdate,run_underlying ht,g,ck,fk,ej,e2,ks,Go.MapKept.run_setObj_map _ h1]
  ·rw [← e4 v]
   simp
theorem zKind (w:World):(zeroValue 23).run Tryz.prog w=.ok (.int .i64 0) w:=by kernel_rfl
theorem zInt (w:World):(zeroValue 3).run Tryz.prog w=.ok (.int .i64 0) w:=by kernel_rfl
theorem zNode (w:World):(zeroValue 26).run Tryz.prog w=.ok (.agg #[.string ⟨#[]⟩,.string ⟨#[]⟩,.int .i64 0,.int .i64 0,.int .i64 0,.slice none 0 0]) w:=by kernel_rfl
theorem umK:Tryz.prog.underlying 195=some (.map 9 23):=Tryz.underlying195
theorem umI:Tryz.prog.underlying 97=some (.map 9 3):=Tryz.underlying97
theorem umN:Tryz.prog.underlying 163=some (.map 9 26):=Tryz.underlying163
def onl (b:Bool) (k:Int):Int:=if b=true then k else 0
theorem only_any (b:Bool) (k:Int) (w:World):Calls Tryz.prog 208 #[.bool b,.int .i64 k] w fun e w'=>e=.returned (.int .i64 (onl b k))∧w=w':=by
 cases b with
 | true =>
  show Calls _ _ _ _ fun e w'=>e=.returned (.int .i64 k)∧w=w'
  go_enter Tryz.func208,Tryz.ntmps208
  go_wp2
  go_returns
  exact ⟨rfl,rfl⟩
 | false =>
  show Calls _ _ _ _ fun e w'=>e=.returned (.int .i64 0)∧w=w'
  go_enter Tryz.func208,Tryz.ntmps208
  go_wp2
  go_returns
  exact ⟨rfl,rfl⟩
def amt (a:Int):Bool:=decide (2≤a∧a≤4)
def rnk (a:Int):Bool:=decide (2≤a∧a≤5)
def keyB (a:Int):Bool:=decide (a=2∨a=3∨a=5)
theorem beqI (a b:Int) (h:a≠b):(a==b)=false:=by simpa using h
theorem amount_any (a:Int) (w:World):Calls Tryz.prog 209 #[.int .i64 a] w fun e w'=>e=.returned (.bool (amt a))∧w=w':=by
 by_cases h2:a=2
 ·subst h2
  show Calls _ _ _ _ fun e w'=>e=.returned (.bool true)∧w=w'
  go_enter Tryz.func209,Tryz.ntmps209
  go_wp2
  go_returns
  exact ⟨rfl,rfl⟩
 by_cases h3:a=3
 ·subst h3
  show Calls _ _ _ _ fun e w'=>e=.returned (.bool true)∧w=w'
  go_enter Tryz.func209,Tryz.ntmps209
  go_wp2
  go_returns
  exact ⟨rfl,rfl⟩
 by_cases h4:a=4
 ·subst h4
  show Calls _ _ _ _ fun e w'=>e=.returned (.bool true)∧w=w'
  go_enter Tryz.func209,Tryz.ntmps209
  go_wp2
  go_returns
  exact ⟨rfl,rfl⟩
 rw [show amt a=false from by unfold amt;simp;omega]
 have e2:=beqI _ _ h2
 have e3:=beqI _ _ h3
 have e4:=beqI _ _ h4
 clear h2 h3 h4
 go_enter Tryz.func209,Tryz.ntmps209
 go_wp2
 go_returns
 exact ⟨rfl,rfl⟩
theorem isKey_any (a:Int) (w:World):Calls Tryz.prog 146 #[.int .i64 a] w fun e w'=>e=.returned (.bool (keyB a))∧w=w':=by
 by_cases h2:a=2
 ·subst h2
  show Calls _ _ _ _ fun e w'=>e=.returned (.bool true)∧w=w'
  go_enter Tryz.func146,Tryz.ntmps146
  go_wp2
  go_returns
  exact ⟨rfl,rfl⟩
 by_cases h3:a=3
 ·subst h3
  show Calls _ _ _ _ fun e w'=>e=.returned (.bool true)∧w=w'
  go_enter Tryz.func146,Tryz.ntmps146
  go_wp2
  go_returns
  exact ⟨rfl,rfl⟩
 by_cases h4:a=5
 ·subst h4
  show Calls _ _ _ _ fun e w'=>e=.returned (.bool true)∧w=w'
  go_enter Tryz.func146,Tryz.ntmps146
  go_wp2
  go_returns
  exact ⟨rfl,rfl⟩
 rw [show keyB a=false from by unfold keyB;simp;omega]
 have e2:=beqI _ _ h2
 have e3:=beqI _ _ h3
 have e4:=beqI _ _ h4
 clear h2 h3 h4
 go_enter Tryz.func146,Tryz.ntmps146
 go_wp2
 go_returns
 exact ⟨rfl,rfl⟩
theorem ranked_any (a:Int) (w:World):Calls Tryz.prog 211 #[.int .i64 a] w fun e w'=>e=.returned (.bool (rnk a))∧w=w':=by
 have K:=hid (amount_any a)
 by_cases h5:a=5
 ·subst h5
  show Calls _ _ _ _ fun e w'=>e=.returned (.bool true)∧w=w'
  rw [show amt 5=false from rfl] at K
  go_enter Tryz.func211,Tryz.ntmps211
  go_wp2_with (go_at_call 209;with_reducible refine Calls.mono (K.out _) ?_;rintro e w2 ⟨rfl,rfl⟩)
  go_returns
  exact ⟨rfl,rfl⟩
 have e5:=beqI _ _ h5
 cases q:amt a with
 | true =>
  rw [q] at K
  rw [show rnk a=true from by unfold rnk;unfold amt at q;simp at q ⊢;omega]
  clear q h5
  go_enter Tryz.func211,Tryz.ntmps211
  go_wp2_with (go_at_call 209;with_reducible refine Calls.mono (K.out _) ?_;rintro e w2 ⟨rfl,rfl⟩)
  go_returns
  exact ⟨rfl,rfl⟩
 | false =>
  rw [q] at K
  rw [show rnk a=false from by unfold rnk;unfold amt at q;simp at q ⊢;omega]
  clear q h5
  go_enter Tryz.func211,Tryz.ntmps211
  go_wp2_with (go_at_call 209;with_reducible refine Calls.mono (K.out _) ?_;rintro e w2 ⟨rfl,rfl⟩)
  go_returns
  exact ⟨rfl,rfl⟩
def mixL:List (ByteArray × Int × Int × Int):=[(⟨#[43]⟩,5,2,5),(⟨#[45]⟩,5,5,2),(⟨#[45]⟩,5,2,5),(⟨#[42]⟩,2,2,2),(⟨#[42]⟩,3,2,3),(⟨#[42]⟩,4,2,4),(⟨#[42]⟩,4,3,3),(⟨#[47]⟩,2,2,2),(⟨#[47]⟩,3,2,3),(⟨#[47]⟩,3,3,4)]
def mixA:Array Value:=#[.string ⟨#[43]⟩,.int .i64 5,.int .i64 2,.int .i64 5,.string ⟨#[45]⟩,.int .i64 5,.int .i64 5,.int .i64 2,.string ⟨#[45]⟩,.int .i64 5,.int .i64 2,.int .i64 5,.string ⟨#[42]⟩,.int .i64 2,.int .i64 2,.int .i64 2,.string ⟨#[42]⟩,.int .i64 3,.int .i64 2,.int .i64 3,.string ⟨#[42]⟩,.int .i64 4,.int .i64 2,.int .i64 4,.string ⟨#[42]⟩,.int .i64 4,.int .i64 3,.int .i64 3,.string ⟨#[47]⟩,.int .i64 2,.int .i64 2,.int .i64 2,.string ⟨#[47]⟩,.int .i64 3,.int .i64 2,.int .i64 3,.string ⟨#[47]⟩,.int .i64 3,.int .i64 3,.int .i64 4]
def TabM (w:World):Prop:=3<w.heap.size∧∀ i,i<40→w.cell? ⟨3,i,none⟩=mixA[i]?
theorem TabM.keep {w w':World} (h:TabM w) (hs:w.heap.size≤w'.heap.size) (hb:w'.heap[3]?=w.heap[3]?):TabM w' :=
 ⟨by have:=h.1;omega,fun i hi=>(World.cell?_of_block (a:=⟨3,i,none⟩) hb).trans (h.2 i hi)⟩
theorem TabM.next {w w':World} (h:TabM w) (hb:Below w.heap.size w w'):TabM w':=h.keep hb.size (hb.block 3 h.1)
theorem mixInfo:(Tryz.prog.info? 257).map (·.size)=some 40:=by kernel_rfl
theorem run_mix {w:World} (hT:TabM w):(loadVar 257 ⟨3,0,none⟩).run Tryz.prog w=.ok (.agg mixA) w:=by
 have hl:(loadCells ⟨3,0,none⟩ mixA.toList.length).run Tryz.prog w=.ok mixA.toList.toArray w :=
  run_loadCells_list (P:=Tryz.prog) w ⟨3,0,none⟩ mixA.toList (fun j v hv=>by
   have hadd:(⟨3,0,none⟩:Addr).add j=⟨3,j,none⟩:=by unfold Addr.add;split <;> simp_all
   have hj:j<40:=(List.getElem?_eq_some_iff.1 hv).1
   rw [hadd,hT.2 j hj]
   simpa using hv)
 have hu:Tryz.prog.underlying 257=some _:=Tryz.underlying257
 cases hq:Tryz.prog.info? 257 with
 | none=>have:=mixInfo;rw [hq] at this;cases this
 | some i =>
  have hs:i.size=40:=by have:=mixInfo;rw [hq] at this;simpa using this
  have hagg:(isAgg 257).run Tryz.prog w=.ok true w:=by
   unfold isAgg
   rw [Sem.run_bind,run_underlying hu w]
   simp
  have hn:mixA.toList.length=40:=rfl
  rw [hn,Array.toArray_toList] at hl
  simp only [loadVar,Sem.run_bind,hagg,sizeOf,typeInfo,hq,hs,hl]
  simp [hq,hs,hl]
theorem wpList_mix {w:World} {ops:Array Oper} {rest:List Oper} {o:Oper} {a:Act} {Q:Exit→Act→World→Prop} (hgd:o.guard=none) (ho:o.op=.load 257 (.global 3)) (hT:TabM w)
  (h:wpList Tryz.prog ops Q rest (a.put o.dst (.agg mixA)) w):wpList Tryz.prog ops Q (o :: rest) a w:=by
 refine wpList_plain hgd fun _ hK=>?_
 have hr:=run_mix hT
 unfold Oper.wp execOp
 have hx:a.eval (.global 3)=.pointer (some ⟨3,0,none⟩):=rfl
 simp only [ho,hx,Instr.loadAt,Instr.sureAddr,Sem.run_bind,Sem.run_pure,Result.andThen_ok,hr]
 exact hK _ _ h
set_option maxRecDepth 100000 in
theorem idxm_0 (w:World):(Instr.index 257 (.agg mixA) (.int .i64 0)).run Tryz.prog w=.ok (.agg #[.string ⟨#[43]⟩,.int .i64 5,.int .i64 2,.int .i64 5]) w:=by kernel_rfl
set_option maxRecDepth 100000 in
theorem idxm_1 (w:World):(Instr.index 257 (.agg mixA) (.int .i64 1)).run Tryz.prog w=.ok (.agg #[.string ⟨#[45]⟩,.int .i64 5,.int .i64 5,.int .i64 2]) w:=by kernel_rfl
set_option maxRecDepth 100000 in
theorem idxm_2 (w:World):(Instr.index 257 (.agg mixA) (.int .i64 2)).run Tryz.prog w=.ok (.agg #[.string ⟨#[45]⟩,.int .i64 5,.int .i64 2,.int .i64 5]) w:=by kernel_rfl
set_option maxRecDepth 100000 in
theorem idxm_3 (w:World):(Instr.index 257 (.agg mixA) (.int .i64 3)).run Tryz.prog w=.ok (.agg #[.string ⟨#[42]⟩,.int .i64 2,.int .i64 2,.int .i64 2]) w:=by kernel_rfl
set_option maxRecDepth 100000 in
theorem idxm_4 (w:World):(Instr.index 257 (.agg mixA) (.int .i64 4)).run Tryz.prog w=.ok (.agg #[.string ⟨#[42]⟩,.int .i64 3,.int .i64 2,.int .i64 3]) w:=by kernel_rfl
set_option maxRecDepth 100000 in
theorem idxm_5 (w:World):(Instr.index 257 (.agg mixA) (.int .i64 5)).run Tryz.prog w=.ok (.agg #[.string ⟨#[42]⟩,.int .i64 4,.int .i64 2,.int .i64 4]) w:=by kernel_rfl
set_option maxRecDepth 100000 in
theorem idxm_6 (w:World):(Instr.index 257 (.agg mixA) (.int .i64 6)).run Tryz.prog w=.ok (.agg #[.string ⟨#[42]⟩,.int .i64 4,.int .i64 3,.int .i64 3]) w:=by kernel_rfl
set_option maxRecDepth 100000 in
theorem idxm_7 (w:World):(Instr.index 257 (.agg mixA) (.int .i64 7)).run Tryz.prog w=.ok (.agg #[.string ⟨#[47]⟩,.int .i64 2,.int .i64 2,.int .i64 2]) w:=by kernel_rfl
set_option maxRecDepth 100000 in
theorem idxm_8 (w:World):(Instr.index 257 (.agg mixA) (.int .i64 8)).run Tryz.prog w=.ok (.agg #[.string ⟨#[47]⟩,.int .i64 3,.int .i64 2,.int .i64 3]) w:=by kernel_rfl
set_option maxRecDepth 100000 in
theorem idxm_9 (w:World):(Instr.index 257 (.agg mixA) (.int .i64 9)).run Tryz.prog w=.ok (.agg #[.string ⟨#[47]⟩,.int .i64 3,.int .i64 3,.int .i64 4]) w:=by kernel_rfl
theorem idx_mix:∀ (i:Nat) (x:ByteArray × Int × Int × Int),mixL[i]?=some x→∀ w,(Instr.index 257 (.agg mixA) (.int .i64 (i:Nat))).run Tryz.prog w=.ok (.agg #[.string x.1,.int .i64 x.2.1,.int .i64 x.2.2.1,.int .i64 x.2.2.2]) w:=by
 intro i x h w
 match i,h with
 | 0,h=>cases (Option.some.inj h);exact idxm_0 w
 | 1,h=>cases (Option.some.inj h);exact idxm_1 w
 | 2,h=>cases (Option.some.inj h);exact idxm_2 w
 | 3,h=>cases (Option.some.inj h);exact idxm_3 w
 | 4,h=>cases (Option.some.inj h);exact idxm_4 w
 | 5,h=>cases (Option.some.inj h);exact idxm_5 w
 | 6,h=>cases (Option.some.inj h);exact idxm_6 w
 | 7,h=>cases (Option.some.inj h);exact idxm_7 w
 | 8,h=>cases (Option.some.inj h);exact idxm_8 w
 | 9,h=>cases (Option.some.inj h);exact idxm_9 w
 | i+10,h=>simp [mixL] at h
end Go.Proofs.YteknljnjcoehoaaGreatDoor
