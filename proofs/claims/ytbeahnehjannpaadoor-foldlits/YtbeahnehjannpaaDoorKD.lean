/- Parts of the proof. -/
import Derived.Test.YtbeahnehjannpaaDoorKS
namespace Go.Proofs.YtbeahnehjannpaaDoor
open Go.RowKit
set_option linter.unusedVariables false
set_option linter.unusedSimpArgs false
structure Wo where
 k:Nat
 t:ByteArray
 n:Nat
 a:Nat
inductive Tr where
 | nd (op name:ByteArray) (kind:Nat) (n:Int) (at_:Nat) (kids:List Tr)
def Tr.op:Tr→ByteArray | .nd o _ _ _ _ _=>o
def Tr.name:Tr→ByteArray | .nd _ o _ _ _ _=>o
def Tr.kind:Tr→Nat | .nd _ _ o _ _ _=>o
def Tr.n:Tr→Int | .nd _ _ _ o _ _=>o
def Tr.pl:Tr→Nat | .nd _ _ _ _ o _=>o
def Tr.kids:Tr→List Tr | .nd _ _ _ _ _ o=>o
def Tr.zero:Tr:=.nd ⟨#[]⟩ ⟨#[]⟩ 0 0 0 []
def tw (l:List Wo):ByteArray:=match l with | []=>⟨#[]⟩ | x :: _=>x.t
def kw (l:List Wo):Nat:=match l with | []=>0 | x :: _=>x.k
def nw (l:List Wo):Nat:=match l with | []=>0 | x :: _=>x.n
def aw (l:List Wo):Nat:=match l with | []=>0 | x :: _=>x.a
structure Rs where
 t:Option Tr
 l:List Wo
 o:Option Nat
def eqB (a b:ByteArray):Bool:=a.data.toList==b.data.toList
def kindF (t:ByteArray):Nat :=
 if eqB t ⟨#[98,111,111,108]⟩ then 1 else if eqB t ⟨#[99,111,117,110,116]⟩ then 2 else if eqB t ⟨#[109,111,110,101,121]⟩ then 3
 else if eqB t ⟨#[114,97,116,101]⟩ then 4 else if eqB t ⟨#[100,97,116,101]⟩ then 5 else if eqB t ⟨#[109,111,110,101,121,115]⟩ then 6 else 0
def lit1 (kind:Nat) (n:Nat) (a:Nat):Tr:=.nd ⟨#[108,105,116]⟩ ⟨#[]⟩ kind n a []
def Tr.add (t k:Tr):Tr:=match t with | .nd o m d n a ks=>.nd o m d n a (ks ++ [k])
def lvF (t:ByteArray):Int :=
 if eqB t ⟨#[111,114]⟩ then 0 else if eqB t ⟨#[97,110,100]⟩ then 1
 else if eqB t ⟨#[60]⟩ || eqB t ⟨#[60,61]⟩ || eqB t ⟨#[62]⟩ || eqB t ⟨#[62,61]⟩ || eqB t ⟨#[61,61]⟩ || eqB t ⟨#[33,61]⟩ then 2
 else if eqB t ⟨#[43]⟩ || eqB t ⟨#[45]⟩ then 3 else if eqB t ⟨#[42]⟩ || eqB t ⟨#[47]⟩ then 4 else -1
def sOpen:ByteArray:=⟨#[40]⟩
def sShut:ByteArray:=⟨#[41]⟩
def sComma:ByteArray:=⟨#[44]⟩
def sColon:ByteArray:=⟨#[58]⟩
def sSemi:ByteArray:=⟨#[59]⟩
def sEq:ByteArray:=⟨#[61]⟩
def sBrace:ByteArray:=⟨#[123]⟩
def sEnd:ByteArray:=⟨#[125]⟩
def sMin:ByteArray:=⟨#[109,105,110]⟩
def sMax:ByteArray:=⟨#[109,97,120]⟩
def sLen:ByteArray:=⟨#[108,101,110]⟩
def sAt:ByteArray:=⟨#[97,116]⟩
def sSum:ByteArray:=⟨#[115,117,109]⟩
def sIn:ByteArray:=⟨#[105,110]⟩
def sIf:ByteArray:=⟨#[105,102]⟩
def sThen:ByteArray:=⟨#[116,104,101,110]⟩
def sElse:ByteArray:=⟨#[101,108,115,101]⟩
def sName:ByteArray:=⟨#[110,97,109,101]⟩
def sNeg:ByteArray:=⟨#[110,101,103]⟩
def sNot:ByteArray:=⟨#[110,111,116]⟩
def sMinus:ByteArray:=⟨#[45]⟩
def sInput:ByteArray:=⟨#[105,110,112,117,116]⟩
def sRule:ByteArray:=⟨#[114,117,108,101]⟩
def sTable:ByteArray:=⟨#[116,97,98,108,101]⟩
def sRow:ByteArray:=⟨#[114,111,119]⟩
def sStatute:ByteArray:=⟨#[115,116,97,116,117,116,101]⟩
def wo (s:ByteArray) (x:Wd):Wo:=⟨x.1,s.extract x.2.2.2 (x.2.2.2+x.2.1),x.2.2.1,x.2.2.2⟩
structure Sp where
 l:List Wo
 b:Option Nat
 e:Bool
def Sp.ok (s:Sp):Bool:=s.b.isNone
def Sp.nx (s:Sp):Sp:=⟨s.l.tail,s.b,s.e⟩
def Sp.fail (s:Sp):Sp:=⟨s.l,some (s.b.getD (aw s.l)),s.e⟩
def Sp.lim (s:Sp):Sp:=⟨s.l,some (s.b.getD (aw s.l)),s.b.isNone || s.e⟩
def Sp.is (s:Sp) (t:ByteArray):Bool:=s.ok && (kw s.l==2 || kw s.l==7) && eqB (tw s.l) t
def Sp.want (s:Sp) (t:ByteArray):Sp:=if s.is t then s.nx else s.fail
def Sp.nm (s:Sp):ByteArray × Sp:=if s.ok && kw s.l==1 then (tw s.l,s.nx) else (⟨#[]⟩,s.fail)
def Sp.kd (s:Sp):Nat × Sp:=if s.ok && kw s.l==2 && kindF (tw s.l) != 0 then (kindF (tw s.l),s.nx) else (0,s.fail)
def sTrue:ByteArray:=⟨#[116,114,117,101]⟩
def sFalse:ByteArray:=⟨#[102,97,108,115,101]⟩
def Sp.islit (s:Sp):Bool:=s.ok && ((3≤kw s.l && kw s.l≤6) || s.is sTrue || s.is sFalse)
def litV (l:List Wo):Tr :=
 if kw l=3 then lit1 2 (nw l) (aw l) else if kw l=4 then lit1 3 (nw l) (aw l) else if kw l=5 then lit1 4 (nw l) (aw l) else if kw l=6 then lit1 5 (nw l) (aw l)
 else lit1 1 (if eqB (tw l) sTrue then 1 else nw l) (aw l)
def Sp.lit (s:Sp):Tr × Sp:=if s.islit then (litV s.l,s.nx) else (Tr.zero,s.fail)
abbrev Ax:=Sp→Tr × Sp
def opAt (lv:Nat) (s:Sp):Bool:=s.ok && (kw s.l==2 || kw s.l==7) && (lvF (tw s.l)==(lv:Int))
def two (op:ByteArray) (a:Nat) (x y:Tr):Tr:=.nd op ⟨#[]⟩ 0 0 a [x,y]
def one (op name:ByteArray) (a:Nat) (x:Tr):Tr:=.nd op name 0 0 a [x]
def loopX (B:Ax) (lv:Nat):Nat→Tr→Sp→Tr × Sp
 | 0,a,s=>(a,s)
 | f+1,a,s =>
  if opAt lv s then
   if lv=2 then (two (tw s.l) (aw s.l) a (B s.nx).1,(B s.nx).2) else loopX B lv f (two (tw s.l) (aw s.l) a (B s.nx).1) (B s.nx).2
  else (a,s)
def rowR (U:Ax):Nat→Ax
 | 0,s=>U s
 | m+1,s=>loopX (rowR U m) (4 - m) (rowR U m s).2.l.length (rowR U m s).1 (rowR U m s).2
def pairR (E:Ax) (op:ByteArray) (s:Sp):Tr × Sp :=
 let a:=E (s.nx.want sOpen)
 let b:=E (a.2.want sComma)
 (two op (aw s.l) a.1 b.1,b.2.want sShut)
def openR (E:Ax) (s:Sp):Tr × Sp:=((E s.nx).1,(E s.nx).2.want sShut)
def lenR (E:Ax) (s:Sp):Tr × Sp :=
 let a:=E (s.nx.want sOpen)
 (one sLen ⟨#[]⟩ (aw s.l) a.1,a.2.want sShut)
def atR (E:Ax) (s:Sp):Tr × Sp :=
 let n:=(s.nx.want sOpen).nm
 let a:=E (n.2.want sComma)
 (one sAt n.1 (aw s.l) a.1,a.2.want sShut)
def sumR (E:Ax) (s:Sp):Tr × Sp :=
 let n:=(s.nx.want sOpen).nm
 let a:=E (n.2.want sIn)
 let b:=E (a.2.want sColon)
 (.nd sSum n.1 0 0 (aw s.l) [a.1,b.1],b.2.want sShut)
def primR (E:Ax) (s:Sp):Tr × Sp :=
 if s.islit then s.lit else if s.is sMin then pairR E sMin s else if s.is sMax then pairR E sMax s
 else if s.is sOpen then openR E s else if s.is sLen then lenR E s else if s.is sAt then atR E s else if s.is sSum then sumR E s
 else (.nd sName s.nm.1 0 0 (aw s.l) [],s.nm.2)
def trnR (U:Option Ax) (op:ByteArray) (s:Sp):Tr × Sp :=
 match U with
 | none=>(Tr.zero,s.nx.lim)
 | some U=>(one op ⟨#[]⟩ (aw s.l) (U s.nx).1,(U s.nx).2)
def unR (U:Option Ax) (E:Ax) (s:Sp):Tr × Sp :=
 if s.is sMinus then trnR U sNeg s else if s.is sNot then trnR U sNot s else primR E s
def ifR (E:Ax) (s:Sp):Tr × Sp :=
 let a:=E s.nx
 let b:=E (a.2.want sThen)
 let c:=E (b.2.want sElse)
 (.nd sIf ⟨#[]⟩ 0 0 (aw s.l) [a.1,b.1,c.1],c.2)
def insR (U E:Ax) (s:Sp):Tr × Sp:=if s.is sIf then ifR E s else rowR U 5 s
def exR (R:Option (Ax × Ax)) (s:Sp):Tr × Sp :=
 if s.ok then (match R with | none=>(Tr.zero,s.lim) | some (U,E)=>insR U E s) else (Tr.zero,s)
def recR:Nat→Ax × Ax
 | 0=>(unR none (exR none),exR none)
 | n+1=>(unR (some (recR n).1) (exR (some (recR n))),exR (some (recR n)))
def rowT (a:Nat) (ks:List Tr):Tr:=.nd sRow ⟨#[]⟩ 0 0 a ks
def rowsX:Nat→List Tr→Sp→List Tr × Sp
 | 0,ks,s=>(ks,s)
 | f+1,ks,s =>
  if s.ok && !s.is sElse then
   if ks.length=32 then (ks,s.lim)
   else
    let a:=s.lit
    let b:=(a.2.want sColon).lit
    rowsX f (ks ++ [rowT (aw s.l) [a.1,b.1]]) (b.2.want sComma)
  else (ks,s)
def tabR (s:Sp):List Tr × Sp :=
 let r:=rowsX 33 [] s
 let t:=if r.2.ok && r.1.length==32 then r.2.lim else r.2
 let b:=(t.want sElse).lit
 (r.1 ++ [rowT (aw t.l) [b.1]],b.2.want sEnd)
def declX (E:Ax) (s:Sp):Tr × Sp :=
 if s.is sInput then
  let n:=s.nx.nm
  let k:=n.2.kd
  (.nd sInput n.1 k.1 0 (aw s.l) [],k.2.want sSemi)
 else if s.is sRule then
  let n:=s.nx.nm
  let k:=n.2.kd
  let e:=E (k.2.want sEq)
  (.nd sRule n.1 k.1 0 (aw s.l) [e.1],e.2.want sSemi)
 else if s.is sTable then
  let n:=s.nx.nm
  let k:=n.2.kd
  let h:=k.2.kd
  let r:=tabR (h.2.want sBrace)
  (.nd sTable n.1 h.1 (k.1:Nat) (aw s.l) r.1,r.2)
 else (.nd ⟨#[]⟩ ⟨#[]⟩ 0 0 (aw s.l) [],s.fail)
def declsX (E:Ax):Nat→List Tr→Sp→List Tr × Sp
 | 0,ks,s=>(ks,s)
 | f+1,ks,s=>if s.ok && kw s.l != 0 then declsX E f (ks ++ [(declX E s).1]) (declX E s).2 else (ks,s)
def parX (l:List Wo):Tr ⊕ (Nat × Bool) :=
 let r:=declsX (recR 40).2 l.length [] ⟨l,none,false⟩
 match r.2.b with
 | none=>.inl (.nd sStatute ⟨#[]⟩ 0 0 (aw l) r.1)
 | some a=>.inr (a,r.2.e)
def parseX (s:ByteArray):Tr ⊕ (Nat × Bool) :=
 match cutF s 0 with
 | (_,some b)=>.inr (b,false)
 | (R,none)=>parX (R.map (wo s))
end Go.Proofs.YtbeahnehjannpaaDoor
