/- Parts of the proof. -/
import Derived.Test.YtbeahnehjannpaaDoorKA
import Derived.BigQuiet
import Derived.Laws.Concat
namespace Go.Proofs.YtbeahnehjannpaaDoor
open Go.RowKit
set_option linter.unusedVariables false
set_option linter.unusedSimpArgs false
def isLet (c:UInt8):Bool:=decide (97≤(c.toNat:Int)) && decide ((c.toNat:Int)≤122)
def isNm (c:UInt8):Bool:=isLet c || isDig c || (c.toNat:Int)==95
def isBl (c:UInt8):Bool:=(c.toNat:Int)==32 || (c.toNat:Int)==9 || (c.toNat:Int)==10 || (c.toNat:Int)==13
def runD:List UInt8→Nat
 | []=>0
 | c :: l=>if isDig c then runD l+1 else 0
def runN:List UInt8→Nat
 | []=>0
 | c :: l=>if isNm c then runN l+1 else 0
def runC:List UInt8→Nat
 | []=>0
 | c :: l=>if c.toNat=10 then 0 else runC l+1
def fig (n:Nat):List UInt8→Nat
 | []=>n
 | c :: l=>fig (10*n+(c.toNat - 48)) l
def hd:List UInt8→Nat
 | []=>0
 | c :: _=>c.toNat
def tx (l:List UInt8):ByteArray:=⟨l.toArray⟩
def dotW (l:List UInt8):Nat:=if hd l=46∧runD (l.drop 1)≠0 then 1+runD (l.drop 1) else 0
def dayW:List UInt8→Option Nat
 | c0 :: c1 :: c2 :: c3 :: c4 :: c5 :: c6 :: c7 :: c8 :: c9 :: l =>
  if runD l≠0 then none else if rdB c0 c1 c2 c3 c4 c5 c6 c7 c8 c9 then some (rdN c0 c1 c2 c3 c4 c5 c6 c7 c8 c9).toNat else none
 | _=>none
def pctW (l:List UInt8):Nat:=if dotW l≤5 then dotW l else 0
def pad4 (l:List UInt8):List UInt8:=(l ++ [48,48,48,48]).take 4
def rateV (l:List UInt8):Nat:=fig (fig 0 (l.take (runD l))) (pad4 (((l.drop (runD l)).take (pctW (l.drop (runD l)))).drop 1))
def isPct (l:List UInt8):Bool:=decide (hd (l.drop (runD l+pctW (l.drop (runD l))))=37)
def numW (l:List UInt8):Option (Nat × Nat × Nat) :=
 match dayW l with
 | some n=>some (6,10,n)
 | none =>
  if isPct l then (if rateV l≤1000000000000 then some (5,runD l+pctW (l.drop (runD l))+1,rateV l) else none)
  else if fig 0 (l.take (runD l))≤4503599627370496 then some (3,runD l,fig 0 (l.take (runD l))) else none
def monK (l:List UInt8):Nat:=runD (l.drop 1)
def monP (l:List UInt8):Nat:=if dotW (l.drop (1+monK l))=3 then 3 else 0
def monV (l:List UInt8):Nat:=fig (fig 0 ((l.drop 1).take (monK l))) (if dotW (l.drop (1+monK l))=3 then ((l.drop (1+monK l)).take 3).drop 1 else [48,48])
def monW (l:List UInt8):Option (Nat × Nat × Nat) :=
 if monK l=0 then none else if monV l≤4503599627370496 then some (4,1+monK l+monP l,monV l) else none
def keptB (l:List UInt8):Bool:=l==[105,110,112,117,116] || l==[114,117,108,101] || l==[116,97,98,108,101] || l==[98,111,111,108] || l==[99,111,117,110,116] || l==[109,111,110,101,121] || l==[114,97,116,101] || l==[100,97,116,101] || l==[109,111,110,101,121,115] || l==[105,102] || l==[116,104,101,110] || l==[101,108,115,101] || l==[97,110,100] || l==[111,114] || l==[110,111,116] || l==[109,105,110] || l==[109,97,120] || l==[115,117,109] || l==[105,110] || l==[108,101,110] || l==[97,116] || l==[116,114,117,101] || l==[102,97,108,115,101]
def namW (l:List UInt8):Option (Nat × Nat × Nat):=if runN l≤32 then some (if keptB (l.take (runN l)) then 2 else 1,runN l,0) else none
def two2 (a b:Nat):Bool:=b==61 && (a==60 || a==62 || a==61 || a==33)
def one1 (a:Nat):Bool:=a==40 || a==41 || a==123 || a==125 || a==91 || a==93 || a==44 || a==59 || a==58 || a==61 || a==43 || a==45 || a==42 || a==47 || a==60 || a==62
def sgnN (l:List UInt8):Nat:=if two2 (hd l) (hd (l.drop 1)) then 2 else if one1 (hd l) then 1 else 0
def sgnW (l:List UInt8):Option (Nat × Nat × Nat):=if sgnN l=0 then none else some (7,sgnN l,0)
def wd:List UInt8→Option (Nat × Nat × Nat)
 | []=>none
 | c :: l=>if isLet c then namW (c :: l) else if c.toNat=36 then monW (c :: l) else if isDig c then numW (c :: l) else sgnW (c :: l)
def cutG:Nat→Nat→List UInt8→List (Nat × Nat × Nat × Nat) × Option Nat
 | 0,a,_=>([(0,0,0,a)],none)
 | f+1,a,[]=>([(0,0,0,a)],none)
 | f+1,a,c :: l =>
  if isBl c then cutG f (a+1) l
  else if c.toNat=35 then cutG f (a+runC (c :: l)) ((c :: l).drop (runC (c :: l)))
  else match wd (c :: l) with
   | none=>([],some a)
   | some (k,n,v)=>match cutG f (a+n) ((c :: l).drop n) with
    | (r,none)=>((k,n,v,a) :: r,none)
    | (r,some b)=>([],some b)
def tl (s:ByteArray) (a:Nat):List UInt8:=s.data.toList.drop a
def cutF (s:ByteArray) (a:Nat):List (Nat × Nat × Nat × Nat) × Option Nat:=cutG (s.size - a) a (tl s a)
def bt (s:ByteArray) (k:Nat):UInt8:=s.data.toList.getD k 0
theorem tl_cons {s:ByteArray} {k:Nat} (h:k<s.size):tl s k=bt s k :: tl s (k+1):=by
 have h':k<s.data.toList.length:=by simpa using h
 unfold tl bt
 rw [List.drop_eq_getElem_cons h',List.getD_eq_getElem?_getD,List.getElem?_eq_getElem h']
 rfl
theorem tl_nil {s:ByteArray} {k:Nat} (h:s.size≤k):tl s k=[]:=by
 unfold tl
 rw [List.drop_eq_nil_iff]
 simpa using h
theorem bt_at {s:ByteArray} {k:Nat} (h:k<s.size):s[k]'h=bt s k:=by
 have h':k<s.data.toList.length:=by simpa using h
 unfold bt
 rw [List.getD_eq_getElem?_getD,List.getElem?_eq_getElem h']
 rfl
def dgB (c:Int):Bool:=decide (48≤c) && decide (c≤57)
def leB (c:Int):Bool:=decide (97≤c) && decide (c≤122)
def blB (c:Int):Bool:=c==32 || c==9 || c==10 || c==13
theorem dgB_of {c:Int} (h:dgB c=true):48≤c∧c≤57:=by unfold dgB at h;simpa using h
theorem runD_cons {s:ByteArray} {k:Nat} (h:k<s.size):runD (tl s k)=if dgB (bt s k).toNat then runD (tl s (k+1))+1 else 0:=by
 rw [tl_cons h]
 rfl
theorem runD_le (l:List UInt8):runD l≤l.length:=by
 induction l with
 | nil=>exact Nat.le_refl _
 | cons c l ih =>
  unfold runD
  split
  ·simp;omega
  ·simp
theorem tl_len (s:ByteArray) (k:Nat):(tl s k).length=s.size - k:=by unfold tl;simp
def dEnd (s:ByteArray) (a:Nat):Nat:=a+runD (tl s a)
theorem dEnd_le {s:ByteArray} {a:Nat} (h:a≤s.size):dEnd s a≤s.size:=by
 have:=runD_le (tl s a)
 rw [tl_len] at this
 unfold dEnd
 omega
theorem bnet {a b:Int} (h:a≠b):(a != b)=true:=by simp [bne,h]
theorem fig_ge (l:List UInt8):∀ n,n≤fig n l:=by
 induction l with
 | nil=>intro n;exact Nat.le_refl _
 | cons c l ih=>intro n;have:=ih (10*n+(c.toNat - 48));unfold fig;omega
def AllD (s:ByteArray):Prop:=∀ c ∈ s.data.toList,dgB c.toNat=true
theorem bt_mem {s:ByteArray} {k:Nat} (h:k<s.size):bt s k ∈ s.data.toList:=by
 rw [← bt_at h]
 exact Array.mem_toList_iff.2 (Array.getElem_mem h)
theorem fig_cons {s:ByteArray} {k n:Nat} (h:k<s.size):fig n (tl s k)=fig (10*n+((bt s k).toNat - 48)) (tl s (k+1)):=by
 rw [tl_cons h]
 rfl
def dotE (s:ByteArray) (a:Nat):Nat:=a+dotW (tl s a)
theorem dotE_no {s:ByteArray} {a:Nat} (h:a<s.size) (h':(bt s a).toNat≠46):dotE s a=a:=by
 unfold dotE dotW
 rw [tl_cons h,if_neg (by intro c;exact h' c.1)]
 rfl
theorem dotE_nil {s:ByteArray} {a:Nat} (h:s.size≤a):dotE s a=a:=by
 unfold dotE dotW
 rw [tl_nil h,if_neg (by intro c;exact absurd c.1 (by decide))]
 rfl
theorem dotE_yes {s:ByteArray} {a:Nat} (h:a<s.size) (h':(bt s a).toNat=46):dotE s a=if dEnd s (a+1)=a+1 then a else dEnd s (a+1):=by
 unfold dotE dotW dEnd
 rw [tl_cons h]
 show (a+if (bt s a).toNat=46∧runD (tl s (a+1))≠0 then 1+runD (tl s (a+1)) else 0)=_
 by_cases z:runD (tl s (a+1))=0
 ·rw [if_neg (by intro c;exact c.2 z),if_pos (by omega)];rfl
 ·rw [if_pos ⟨h',z⟩,if_neg (by omega)];omega
theorem dotE_le {s:ByteArray} {a:Nat} (h:a≤s.size):a≤dotE s a∧dotE s a≤s.size:=by
 by_cases c:a<s.size
 ·by_cases d:(bt s a).toNat=46
  ·have:=dEnd_le (s:=s) (a:=a+1) c
   have:a+1≤dEnd s (a+1):=by unfold dEnd;omega
   rw [dotE_yes c d]
   split <;> omega
  ·rw [dotE_no c d];omega
 ·rw [dotE_nil (by omega)];omega
def pctE (s:ByteArray) (a:Nat):Nat:=a+pctW (tl s a)
def pctB (s:ByteArray) (a:Nat):Bool:=decide (hd (tl s (pctE s a))=37)
theorem pctE_is (s:ByteArray) (a:Nat):pctE s a=if dotE s a≤a+5 then dotE s a else a:=by
 unfold pctE pctW dotE
 by_cases h:dotW (tl s a)≤5
 ·rw [if_pos h,if_pos (by omega)]
 ·rw [if_neg h,if_neg (by omega)];rfl
theorem pctE_le {s:ByteArray} {a:Nat} (h:a≤s.size):a≤pctE s a∧pctE s a≤s.size:=by
 have:=dotE_le h
 rw [pctE_is]
 split <;> omega
theorem pctB_nil {s:ByteArray} {a:Nat} (h:s.size≤pctE s a):pctB s a=false:=by
 unfold pctB
 rw [tl_nil h]
 rfl
theorem pctB_cons {s:ByteArray} {a:Nat} (h:pctE s a<s.size):pctB s a=(((bt s (pctE s a)).toNat:Int)==37):=by
 unfold pctB
 rw [tl_cons h]
 show decide ((bt s (pctE s a)).toNat=37)=_
 rw [Bool.eq_iff_iff]
 simp
 omega
theorem cat_data (s t:ByteArray):(s ++ t).data.toList=s.data.toList ++ t.data.toList:=by
 rw [ByteArray.data_append];exact Array.toList_append
theorem ext_data (s:ByteArray) (a b:Nat):(s.extract a b).data.toList=(s.data.toList.drop a).take (b - a):=by
 rw [ByteArray.data_extract]
 simp [List.extract_eq_take_drop]
theorem tx_data (s:ByteArray):tx s.data.toList=s:=by cases s;simp [tx]
theorem ext_is (s:ByteArray) (a b:Nat):s.extract a b=tx ((tl s a).take (b - a)):=by
 rw [← tx_data (s.extract a b),ext_data]
 rfl
structure X4 (w0 w:World) (b:Nat) (v0 v1 v2 v3:Value):Prop where
 c0:w.cell? ⟨b,0,none⟩=some v0
 c1:w.cell? ⟨b,1,none⟩=some v1
 c2:w.cell? ⟨b,2,none⟩=some v2
 c3:w.cell? ⟨b,3,none⟩=some v3
 fz:∀ o,w.frozen? ⟨b,o,none⟩=false
 bl:Below w0.heap.size w0 w
 ge:w0.heap.size≤b
theorem X4.lt {w0 w:World} {b:Nat} {v0 v1 v2 v3:Value} (h:X4 w0 w b v0 v1 v2 v3):b<w.heap.size:=World.block_lt_of_cell? _ _ h.c0
theorem X4.new (w:World) (t:TypeId) (v0 v1 v2 v3:Value):X4 w (w.alloc (.cells #[v0,v1,v2,v3] t)) w.heap.size v0 v1 v2 v3 :=
 ⟨by simp,by simp,by simp,by simp,fun o=>by simp,(Below.refl _ _).alloc (Nat.le_refl _) _,Nat.le_refl _⟩
theorem X4.next {w0 w w':World} {b:Nat} {v0 v1 v2 v3:Value} (h:X4 w0 w b v0 v1 v2 v3) (q:Below w.heap.size w w'):X4 w0 w' b v0 v1 v2 v3 :=
 ⟨by rw [q.cell (p:=⟨b,0,none⟩) h.lt];exact h.c0,by rw [q.cell (p:=⟨b,1,none⟩) h.lt];exact h.c1,by rw [q.cell (p:=⟨b,2,none⟩) h.lt];exact h.c2,by rw [q.cell (p:=⟨b,3,none⟩) h.lt];exact h.c3,fun o=>by rw [q.frozen (p:=⟨b,o,none⟩) h.lt];exact h.fz o,nextB h.bl q,h.ge⟩
theorem X4.set {w0 w:World} {b:Nat} {z0 z1 z2 z3:Value} (h:X4 w0 w b z0 z1 z2 z3) (v0 v1 v2 v3:Value):X4 w0 ((((w.setCell ⟨b,0,none⟩ v0).setCell ⟨b,1,none⟩ v1).setCell ⟨b,2,none⟩ v2).setCell ⟨b,3,none⟩ v3) b v0 v1 v2 v3:=by
 have ne:∀ i j:Nat,i≠j→(⟨b,i,none⟩:Addr)≠⟨b,j,none⟩:=fun i j h k=>by injection k with _ k;exact h k
 refine ⟨?_,?_,?_,?_,fun o=>by simpa using h.fz o,(((h.bl.setCell (p:=⟨b,0,none⟩) h.ge _).setCell (p:=⟨b,1,none⟩) h.ge _).setCell (p:=⟨b,2,none⟩) h.ge _).setCell (p:=⟨b,3,none⟩) h.ge _,h.ge⟩
 ·rw [World.cell?_setCell_other _ _ _ _ (ne _ _ (by decide)),World.cell?_setCell_other _ _ _ _ (ne _ _ (by decide)),World.cell?_setCell_other _ _ _ _ (ne _ _ (by decide))]
  exact World.cell?_setCell_same _ _ _ h.c0
 ·rw [World.cell?_setCell_other _ _ _ _ (ne _ _ (by decide)),World.cell?_setCell_other _ _ _ _ (ne _ _ (by decide))]
  exact World.cell?_setCell_same _ _ _ ((World.cell?_setCell_other _ _ _ _ (ne _ _ (by decide))).trans h.c1)
 ·rw [World.cell?_setCell_other _ _ _ _ (ne _ _ (by decide))]
  exact World.cell?_setCell_same _ _ _ ((World.cell?_setCell_other _ _ _ _ (ne _ _ (by decide))).trans ((World.cell?_setCell_other _ _ _ _ (ne _ _ (by decide))).trans h.c2))
 ·exact World.cell?_setCell_same _ _ _ ((World.cell?_setCell_other _ _ _ _ (ne _ _ (by decide))).trans ((World.cell?_setCell_other _ _ _ _ (ne _ _ (by decide))).trans ((World.cell?_setCell_other _ _ _ _ (ne _ _ (by decide))).trans h.c3)))
theorem X4.set0 {w0 w:World} {b:Nat} {z0 z1 z2 z3:Value} (h:X4 w0 w b z0 z1 z2 z3) (v0:Value):X4 w0 (w.setCell ⟨b,0,none⟩ v0) b v0 z1 z2 z3:=by
 have ne:∀ i j:Nat,i≠j→(⟨b,i,none⟩:Addr)≠⟨b,j,none⟩:=fun i j h k=>by injection k with _ k;exact h k
 exact ⟨World.cell?_setCell_same _ _ _ h.c0,(World.cell?_setCell_other _ _ _ _ (ne _ _ (by decide))).trans h.c1,(World.cell?_setCell_other _ _ _ _ (ne _ _ (by decide))).trans h.c2,(World.cell?_setCell_other _ _ _ _ (ne _ _ (by decide))).trans h.c3,fun o=>by simpa using h.fz o,h.bl.setCell (p:=⟨b,0,none⟩) h.ge _,h.ge⟩
theorem X4.off {w0 w:World} {b c:Nat} {v0 v1 v2 v3:Value} (h:X4 w0 w b v0 v1 v2 v3) (i:Nat) (v:Value) (hc:c≠b) (hg:w0.heap.size≤c):X4 w0 (w.setCell ⟨c,i,none⟩ v) b v0 v1 v2 v3:=by
 have ne:∀ j:Nat,(⟨c,i,none⟩:Addr)≠⟨b,j,none⟩:=fun j k=>by injection k with k;exact hc k
 exact ⟨(World.cell?_setCell_other _ _ _ _ (ne _)).trans h.c0,(World.cell?_setCell_other _ _ _ _ (ne _)).trans h.c1,(World.cell?_setCell_other _ _ _ _ (ne _)).trans h.c2,(World.cell?_setCell_other _ _ _ _ (ne _)).trans h.c3,fun o=>by simpa using h.fz o,h.bl.setCell (p:=⟨c,i,none⟩) hg _,h.ge⟩
def LgP (s:ByteArray) (a:Nat) (o:Option (Nat × Nat × Nat)) (e:Ending):Prop :=
 match o with
 | some (k,n,v)=>e=.returned (.tuple #[.agg #[.int .i64 (k:Nat),.string (s.extract a (a+n)),.int .i64 (v:Nat),.int .i64 (a:Nat)],.bool true])
 | none=>∃ k t n b,e=.returned (.tuple #[.agg #[.int .i64 k,.string t,.int .i64 n,.int .i64 b],.bool false])
theorem tl_drop (s:ByteArray) (a k:Nat):(tl s a).drop k=tl s (a+k):=by unfold tl;rw [List.drop_drop]
theorem runD_dig (l:List UInt8):∀ n,n≤runD l→∀ c ∈ l.take n,dgB c.toNat=true:=by
 induction l with
 | nil=>intro n h c hc;simp at hc
 | cons x l ih =>
  intro n h c hc
  unfold runD at h
  cases n with
  | zero=>simp at hc
  | succ n =>
   split at h
   ·rename_i hx
    simp only [List.take_succ_cons,List.mem_cons] at hc
    rcases hc with rfl | hc
    ·exact hx
    ·exact ih n (by omega) c hc
   ·omega
theorem allD_ext {s:ByteArray} {a e:Nat} (h:e≤dEnd s a):AllD (s.extract a e):=by
 unfold AllD
 rw [ext_data]
 exact runD_dig (tl s a) (e - a) (by unfold dEnd at h;omega)

theorem tl_10 {s:ByteArray} {a:Nat} (h:a+10≤s.size):tl s a=[bt s a,bt s (a+1),bt s (a+2),bt s (a+3),bt s (a+4),bt s (a+5),bt s (a+6),bt s (a+7),bt s (a+8),bt s (a+9)] ++ tl s (a+10):=by
 rw [tl_cons (k:=a) (by omega),tl_cons (k:=a+1) (by omega),tl_cons (k:=a+1+1) (by omega),tl_cons (k:=a+1+1+1) (by omega),tl_cons (k:=a+1+1+1+1) (by omega),tl_cons (k:=a+1+1+1+1+1) (by omega),tl_cons (k:=a+1+1+1+1+1+1) (by omega),tl_cons (k:=a+1+1+1+1+1+1+1) (by omega),tl_cons (k:=a+1+1+1+1+1+1+1+1) (by omega),tl_cons (k:=a+1+1+1+1+1+1+1+1+1) (by omega)]
 rfl
theorem ext_10 {s:ByteArray} {a:Nat} (h:a+10≤s.size):s.extract a (a+10)=⟨#[bt s a,bt s (a+1),bt s (a+2),bt s (a+3),bt s (a+4),bt s (a+5),bt s (a+6),bt s (a+7),bt s (a+8),bt s (a+9)]⟩:=by
 rw [ext_is,tl_10 h,show a+10 - a=10 by omega]
 rfl
def dN (s:ByteArray) (a:Nat):Int:=rdN (bt s a) (bt s (a+1)) (bt s (a+2)) (bt s (a+3)) (bt s (a+4)) (bt s (a+5)) (bt s (a+6)) (bt s (a+7)) (bt s (a+8)) (bt s (a+9))
def dB (s:ByteArray) (a:Nat):Bool:=rdB (bt s a) (bt s (a+1)) (bt s (a+2)) (bt s (a+3)) (bt s (a+4)) (bt s (a+5)) (bt s (a+6)) (bt s (a+7)) (bt s (a+8)) (bt s (a+9))
theorem dayRRead {s:ByteArray} {a:Nat} (w:World) (h:a+10≤s.size):Calls Tryd.prog 54 #[.string (s.extract a (a+10))] w fun e w'=>e=.returned (.tuple #[.int .i64 (dN s a),.bool (dB s a)])∧Below w.heap.size w w':=by
 rw [ext_10 h]
 exact rread_all _ _ _ _ _ _ _ _ _ _ w
theorem dN_bd (s:ByteArray) (a:Nat):0≤dN s a∧dN s a≤109572∨dB s a=false:=by
 unfold dN dB
 generalize bt s a=c0,bt s (a+1)=c1,bt s (a+2)=c2,bt s (a+3)=c3,bt s (a+4)=c4,bt s (a+5)=c5,bt s (a+6)=c6,bt s (a+7)=c7,bt s (a+8)=c8,bt s (a+9)=c9
 cases h:fitB c0 c1 c2 c3 c4 c5 c6 c7 c8 c9
 ·exact .inr (rd_no h).2
 ·rw [(rd_yes h).1,(rd_yes h).2]
  cases k:dateB (dg4 c0 c1 c2 c3) (dg2 c5 c6) (dg2 c8 c9)
  ·exact .inr rfl
  ·exact .inl (isDate_of k).bd
theorem dayW_is {s:ByteArray} {a:Nat} (h:a+10≤s.size):dayW (tl s a)=if dEnd s (a+10)≠a+10 then none else if dB s a then some (dN s a).toNat else none:=by
 rw [tl_10 h]
 show (if runD (tl s (a+10))≠0 then none else if dB s a then some (dN s a).toNat else none)=_
 by_cases z:runD (tl s (a+10))=0
 ·have y:dEnd s (a+10)=a+10:=by unfold dEnd;omega
  rw [z,y]
  simp
 ·have y:dEnd s (a+10)≠a+10:=by unfold dEnd;omega
  rw [if_pos z,if_pos y]
theorem dayW_short {s:ByteArray} {a:Nat} (h:¬ a+10≤s.size):dayW (tl s a)=none:=by
 have hl:(tl s a).length<10:=by rw [tl_len];omega
 generalize tl s a=l at hl
 unfold dayW
 split
 ·simp at hl;omega
 ·rfl
def nEnd (s:ByteArray) (a:Nat):Nat:=a+runN (tl s a)
def nmB (c:Int):Bool:=leB c || dgB c || c==95
theorem runN_cons {s:ByteArray} {k:Nat} (h:k<s.size):runN (tl s k)=if nmB (bt s k).toNat then runN (tl s (k+1))+1 else 0:=by
 rw [tl_cons h]
 rfl
theorem runN_le (l:List UInt8):runN l≤l.length:=by
 induction l with
 | nil=>exact Nat.le_refl _
 | cons c l ih =>
  unfold runN
  split
  ·simp;omega
  ·simp
theorem nEnd_le {s:ByteArray} {a:Nat} (h:a≤s.size):nEnd s a≤s.size:=by
 have:=runN_le (tl s a)
 rw [tl_len] at this
 unfold nEnd
 omega
theorem kept_ext (s:ByteArray) (a:Nat):keptB (s.extract a (nEnd s a)).data.toList=keptB ((tl s a).take (runN (tl s a))):=by
 rw [ext_data]
 show keptB ((tl s a).take (nEnd s a - a))=_
 rw [show nEnd s a - a=runN (tl s a) by unfold nEnd;omega]
theorem X4.base {w0 w1 w:World} {b:Nat} {v0 v1 v2 v3:Value} (h:X4 w1 w b v0 v1 v2 v3) (hb:Below w0.heap.size w0 w1):X4 w0 w b v0 v1 v2 v3 :=
 ⟨h.c0,h.c1,h.c2,h.c3,h.fz,nextB hb h.bl,Nat.le_trans hb.size h.ge⟩
theorem X4.box {w0 w:World} {b:Nat} {z0 z1 z2 z3:Value} (h:X4 w0 w b z0 z1 z2 z3) (t:TypeId) (v0 v1 v2 v3:Value) :
  X4 w0 (w.alloc (.cells #[v0,v1,v2,v3] t)) b z0 z1 z2 z3∧X4 w0 (w.alloc (.cells #[v0,v1,v2,v3] t)) w.heap.size v0 v1 v2 v3 :=
 ⟨h.next (X4.new w t v0 v1 v2 v3).bl,(X4.new w t v0 v1 v2 v3).base h.bl⟩
theorem take_dot (l:List UInt8):∀ c ∈ (l.take (pctW l)).drop 1,dgB c.toNat=true:=by
 unfold pctW
 split
 ·unfold dotW
  split
  ·rw [List.drop_take,show ∀ n,1+n - 1=n from fun n=>by omega]
   exact runD_dig (l.drop 1) _ (Nat.le_refl _)
  ·intro c hc;simp at hc
 ·intro c hc;simp at hc
theorem pctW_le (l:List UInt8):pctW l≤5:=by unfold pctW;split <;> omega
theorem pad_dig {l:List UInt8} (h:∀ c ∈ l,dgB c.toNat=true):AllD (tx (pad4 l)):=by
 intro c hc
 have hc:c ∈ pad4 l:=by simpa [tx] using hc
 unfold pad4 at hc
 have hc:=List.mem_of_mem_take hc
 rw [List.mem_append] at hc
 rcases hc with x | x
 ·exact h c x
 ·simp at x;subst x;decide
theorem isPct_is (s:ByteArray) (a:Nat):isPct (tl s a)=pctB s (dEnd s a):=by
 unfold isPct pctB pctE
 rw [tl_drop,tl_drop]
 unfold dEnd
 rw [Nat.add_assoc]
theorem rate_len (s:ByteArray) (a:Nat):a+(runD (tl s a)+pctW ((tl s a).drop (runD (tl s a)))+1)=pctE s (dEnd s a)+1:=by
 rw [tl_drop]
 unfold pctE dEnd
 omega
theorem LgP.parts {s:ByteArray} {a:Nat} {o:Option (Nat × Nat × Nat)} {e:Ending} (h:LgP s a o e):∃ k t n b B,e=.returned (.tuple #[.agg #[.int .i64 k,.string t,.int .i64 n,.int .i64 b],.bool B]):=by
 match o,h with
 | some (k,n,v),h=>exact ⟨_,_,_,_,_,h⟩
 | none,⟨k,t,n,b,h⟩=>exact ⟨_,_,_,_,_,h⟩
end Go.Proofs.YtbeahnehjannpaaDoor
