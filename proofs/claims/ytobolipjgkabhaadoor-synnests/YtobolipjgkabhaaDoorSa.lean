/- Trees, and a parser over words, in plain words. -/
import Derived.Test.YtobolipjgkabhaaDoorLd
namespace Go.Proofs.YtobolipjgkabhaaDoor
open Go.RowKit
set_option linter.unusedVariables false
set_option linter.unusedSimpArgs false

/-- A word: its kind, its text, its number, its place. -/
structure Wo where
  k : Nat
  t : ByteArray
  n : Nat
  a : Nat
/-- A tree. -/
inductive Tr where
  | nd (op name : ByteArray) (kind : Nat) (n : Int) (at_ : Nat) (kids : List Tr)
def Tr.op : Tr → ByteArray | .nd o _ _ _ _ _ => o
def Tr.name : Tr → ByteArray | .nd _ o _ _ _ _ => o
def Tr.kind : Tr → Nat | .nd _ _ o _ _ _ => o
def Tr.n : Tr → Int | .nd _ _ _ o _ _ => o
def Tr.pl : Tr → Nat | .nd _ _ _ _ o _ => o
def Tr.kids : Tr → List Tr | .nd _ _ _ _ _ o => o
def Tr.zero : Tr := .nd ⟨#[]⟩ ⟨#[]⟩ 0 0 0 []
def tw (l : List Wo) : ByteArray := match l with | [] => ⟨#[]⟩ | x :: _ => x.t
def kw (l : List Wo) : Nat := match l with | [] => 0 | x :: _ => x.k
def nw (l : List Wo) : Nat := match l with | [] => 0 | x :: _ => x.n
def aw (l : List Wo) : Nat := match l with | [] => 0 | x :: _ => x.a
/-- What a part of the parser answers: a tree, or none; the words left; where a limit was passed. -/
structure Rs where
  t : Option Tr
  l : List Wo
  o : Option Nat
def passO (o : Option Nat) (l : List Wo) : Option Nat := match o with | some a => some a | none => some (aw l)
def eqB (a b : ByteArray) : Bool := a.data.toList == b.data.toList
def sNAME : ByteArray := ⟨#[78, 65, 77, 69]⟩
def sKIND : ByteArray := ⟨#[75, 73, 78, 68]⟩
def sLIT : ByteArray := ⟨#[76, 73, 84]⟩
def sEXPR : ByteArray := ⟨#[69, 88, 80, 82]⟩
def kindF (t : ByteArray) : Nat :=
  if eqB t ⟨#[98, 111, 111, 108]⟩ then 1 else if eqB t ⟨#[99, 111, 117, 110, 116]⟩ then 2 else if eqB t ⟨#[109, 111, 110, 101, 121]⟩ then 3
  else if eqB t ⟨#[114, 97, 116, 101]⟩ then 4 else if eqB t ⟨#[100, 97, 116, 101]⟩ then 5 else if eqB t ⟨#[109, 111, 110, 101, 121, 115]⟩ then 6 else 0
def lit1 (kind : Nat) (n : Nat) (a : Nat) : Tr := .nd ⟨#[108, 105, 116]⟩ ⟨#[]⟩ kind n a []
def litF (l : List Wo) : Option Tr :=
  if kw l = 3 then some (lit1 2 (nw l) (aw l)) else if kw l = 4 then some (lit1 3 (nw l) (aw l)) else if kw l = 5 then some (lit1 4 (nw l) (aw l)) else if kw l = 6 then some (lit1 5 (nw l) (aw l))
  else if eqB (tw l) ⟨#[116, 114, 117, 101]⟩ then some (lit1 1 1 (aw l)) else if eqB (tw l) ⟨#[102, 97, 108, 115, 101]⟩ then some (lit1 1 (nw l) (aw l)) else none
def Tr.add (t k : Tr) : Tr := match t with | .nd o m d n a ks => .nd o m d n a (ks ++ [k])
def Tr.setName (t : Tr) (s : ByteArray) : Tr := match t with | .nd o _ d n a ks => .nd o s d n a ks
def Tr.setKind (t : Tr) (k : Nat) : Tr := match t with | .nd o m d n a ks => .nd o m k d a ks
abbrev Ex := Nat → List Wo → Option Nat → Rs
def formF (E : Ex) (deep : Nat) : List ByteArray → Tr → List Wo → Option Nat → Rs
  | [], n, l, o => ⟨some n, l, o⟩
  | p :: ps, n, l, o =>
    if eqB p sNAME then (if kw l = 1 then formF E deep ps (n.setName (tw l)) l.tail o else ⟨none, l, o⟩)
    else if eqB p sKIND then (if kindF (tw l) = 0 then ⟨none, l, o⟩ else formF E deep ps (n.setKind (kindF (tw l))) l.tail o)
    else if eqB p sLIT then (match litF l with | none => ⟨none, l, o⟩ | some t => formF E deep ps (n.add t) l.tail o)
    else if eqB p sEXPR then (match E (deep + 1) l o with | ⟨none, l', o'⟩ => ⟨none, l', o'⟩ | ⟨some t, l', o'⟩ => formF E deep ps (n.add t) l' o')
    else if eqB (tw l) p then formF E deep ps n l.tail o else ⟨none, l, o⟩
def lvF (t : ByteArray) : Int :=
  if eqB t ⟨#[111, 114]⟩ then 0 else if eqB t ⟨#[97, 110, 100]⟩ then 1
  else if eqB t ⟨#[60]⟩ || eqB t ⟨#[60, 61]⟩ || eqB t ⟨#[62]⟩ || eqB t ⟨#[62, 61]⟩ || eqB t ⟨#[61, 61]⟩ || eqB t ⟨#[33, 61]⟩ then 2
  else if eqB t ⟨#[43]⟩ || eqB t ⟨#[45]⟩ then 3 else if eqB t ⟨#[42]⟩ || eqB t ⟨#[47]⟩ then 4 else -1
def loopF (B : List Wo → Option Nat → Rs) (lv : Nat) : Nat → Tr → List Wo → Option Nat → Rs
  | 0, n, l, o => ⟨some n, l, o⟩
  | f + 1, n, l, o =>
    if lvF (tw l) = (lv : Nat) then
      match B l.tail o with
      | ⟨none, l', o'⟩ => ⟨none, l', o'⟩
      | ⟨some r, l', o'⟩ => if lv = 2 then ⟨some (.nd (tw l) ⟨#[]⟩ 0 0 (aw l) [n, r]), l', o'⟩ else loopF B lv f (.nd (tw l) ⟨#[]⟩ 0 0 (aw l) [n, r]) l' o'
    else ⟨some n, l, o⟩
def binF (U : List Wo → Option Nat → Rs) : Nat → List Wo → Option Nat → Rs
  | 0, l, o => U l o
  | m + 1, l, o =>
    match binF U m l o with
    | ⟨none, l', o'⟩ => ⟨none, l', o'⟩
    | ⟨some n, l', o'⟩ => loopF (binF U m) (4 - m) l'.length n l' o'
def op0 (op : ByteArray) (a : Nat) : Tr := .nd op ⟨#[]⟩ 0 0 a []
def kidF (r : Rs) : Rs := match r with | ⟨none, l', o'⟩ => ⟨none, l', o'⟩ | ⟨some n, l', o'⟩ => ⟨n.kids.head?, l', o'⟩
def sOpen : ByteArray := ⟨#[40]⟩
def sShut : ByteArray := ⟨#[41]⟩
def sComma : ByteArray := ⟨#[44]⟩
def sColon : ByteArray := ⟨#[58]⟩
def sSemi : ByteArray := ⟨#[59]⟩
def sEq : ByteArray := ⟨#[61]⟩
def sBrace : ByteArray := ⟨#[123]⟩
def sEnd : ByteArray := ⟨#[125]⟩
def sMin : ByteArray := ⟨#[109, 105, 110]⟩
def sMax : ByteArray := ⟨#[109, 97, 120]⟩
def sLen : ByteArray := ⟨#[108, 101, 110]⟩
def sAt : ByteArray := ⟨#[97, 116]⟩
def sSum : ByteArray := ⟨#[115, 117, 109]⟩
def sIn : ByteArray := ⟨#[105, 110]⟩
def sIf : ByteArray := ⟨#[105, 102]⟩
def sThen : ByteArray := ⟨#[116, 104, 101, 110]⟩
def sElse : ByteArray := ⟨#[101, 108, 115, 101]⟩
def sName : ByteArray := ⟨#[110, 97, 109, 101]⟩
def sNeg : ByteArray := ⟨#[110, 101, 103]⟩
def sNot : ByteArray := ⟨#[110, 111, 116]⟩
def sMinus : ByteArray := ⟨#[45]⟩
def sInput : ByteArray := ⟨#[105, 110, 112, 117, 116]⟩
def sRule : ByteArray := ⟨#[114, 117, 108, 101]⟩
def sTable : ByteArray := ⟨#[116, 97, 98, 108, 101]⟩
def sRow : ByteArray := ⟨#[114, 111, 119]⟩
def sStatute : ByteArray := ⟨#[115, 116, 97, 116, 117, 116, 101]⟩
def litR (l : List Wo) (o : Option Nat) : Rs := match litF l with | none => ⟨none, l, o⟩ | some t => ⟨some t, l.tail, o⟩
def primF (E : Ex) (deep : Nat) (l : List Wo) (o : Option Nat) : Rs :=
  if kw l = 1 then ⟨some (.nd sName (tw l) 0 0 (aw l) []), l.tail, o⟩
  else if eqB (tw l) sOpen then kidF (formF E deep [sOpen, sEXPR, sShut] (op0 ⟨#[]⟩ (aw l)) l o)
  else if eqB (tw l) sMin || eqB (tw l) sMax then formF E deep [tw l, sOpen, sEXPR, sComma, sEXPR, sShut] (op0 (tw l) (aw l)) l o
  else if eqB (tw l) sLen then formF E deep [sLen, sOpen, sEXPR, sShut] (op0 sLen (aw l)) l o
  else if eqB (tw l) sAt then formF E deep [sAt, sOpen, sNAME, sComma, sEXPR, sShut] (op0 sAt (aw l)) l o
  else if eqB (tw l) sSum then formF E deep [sSum, sOpen, sNAME, sIn, sEXPR, sColon, sEXPR, sShut] (op0 sSum (aw l)) l o
  else litR l o
def turnF (U : Ex) (op : ByteArray) (deep : Nat) (l : List Wo) (o : Option Nat) : Rs :=
  match U (deep + 1) l.tail (if 40 < deep + 1 then passO o l.tail else o) with
  | ⟨none, l', o'⟩ => ⟨none, l', o'⟩
  | ⟨some t, l', o'⟩ => ⟨some (.nd op ⟨#[]⟩ 0 0 (aw l) [t]), l', o'⟩
def unF (U E : Ex) (deep : Nat) (l : List Wo) (o : Option Nat) : Rs :=
  if eqB (tw l) sMinus then turnF U sNeg deep l o else if eqB (tw l) sNot then turnF U sNot deep l o else primF E deep l o
def exprF (U E : Ex) (deep : Nat) (l : List Wo) (o : Option Nat) : Rs :=
  if eqB (tw l) sIf then formF E deep [sIf, sEXPR, sThen, sEXPR, sElse, sEXPR] (op0 sIf (aw l)) l (if 40 < deep then passO o l else o)
  else binF (unF U E deep) 5 l (if 40 < deep then passO o l else o)
def recU : Nat → Ex × Ex
  | 0 => (fun _ l o => ⟨none, l, o⟩, fun _ l o => ⟨none, l, o⟩)
  | f + 1 => (unF (recU f).1 (recU f).2, exprF (recU f).1 (recU f).2)
def rowF (last : Bool) (l : List Wo) (o : Option Nat) : Rs :=
  if last then formF (recU l.length).2 0 [sElse, sLIT] (op0 sRow (aw l)) l o else formF (recU l.length).2 0 [sLIT, sColon, sLIT, sComma] (op0 sRow (aw l)) l o
def rowsF : Nat → Tr → List Wo → Option Nat → Rs
  | 0, n, l, o => ⟨none, l, o⟩
  | f + 1, n, l, o =>
    match rowF (eqB (tw l) sElse) l (if 32 ≤ n.kids.length then passO o l else o) with
    | ⟨none, l', o'⟩ => ⟨none, l', o'⟩
    | ⟨some r, l', o'⟩ => if eqB (tw l) sElse then (if eqB (tw l') sEnd then ⟨some (n.add r), l'.tail, o'⟩ else ⟨none, l', o'⟩) else rowsF f (n.add r) l' o'
def tableF (l : List Wo) (o : Option Nat) : Rs :=
  match formF (recU l.length).2 0 [sTable, sNAME, sKIND, sKIND, sBrace] (op0 sTable (aw l)) l o with
  | ⟨none, l', o'⟩ => ⟨none, l', o'⟩
  | ⟨some n, l', o'⟩ => rowsF l'.length n l' o'
def declF (l : List Wo) (o : Option Nat) : Rs :=
  if eqB (tw l) sInput then formF (recU l.length).2 0 [sInput, sNAME, sKIND, sSemi] (op0 sInput (aw l)) l o
  else if eqB (tw l) sRule then formF (recU l.length).2 0 [sRule, sNAME, sKIND, sEq, sEXPR, sSemi] (op0 sRule (aw l)) l o
  else if eqB (tw l) sTable then tableF l o else ⟨none, l, o⟩
def declsF : Nat → Tr → List Wo → Option Nat → Rs
  | 0, n, l, o => ⟨some n, l, o⟩
  | f + 1, n, l, o =>
    if l.length ≤ 1 then ⟨some n, l, o⟩ else
    match declF l o with
    | ⟨none, l', o'⟩ => ⟨none, l', o'⟩
    | ⟨some r, l', o'⟩ => declsF f (n.add r) l' o'
def statF (l : List Wo) : Rs := declsF l.length (op0 sStatute (aw l)) l none
/-- What Parse answers of words: a tree, or where which error is. -/
def parF (l : List Wo) : Tr ⊕ (Nat × Nat) :=
  match statF l with
  | ⟨none, l', _⟩ => .inr (aw l', 7)
  | ⟨some t, _, some a⟩ => .inr (a, 2)
  | ⟨some t, _, none⟩ => .inl t
def wo (s : ByteArray) (x : Wd) : Wo := ⟨x.1, s.extract x.2.2.2 (x.2.2.2 + x.2.1), x.2.2.1, x.2.2.2⟩
def parse (s : ByteArray) : Tr ⊕ (Nat × Nat) :=
  if 8192 < s.size then .inr (0, 2) else
  match cutF s 0 with
  | (_, some b) => .inr (b, 7)
  | (R, none) => parF (R.map (wo s))
end Go.Proofs.YtobolipjgkabhaaDoor
