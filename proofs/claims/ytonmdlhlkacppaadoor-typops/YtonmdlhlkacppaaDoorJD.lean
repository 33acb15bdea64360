/- Trees, and a parser over words, in plain words. The reference's parser, in plain words: a state (the words left, where it failed, whether for a limit), and what each part makes of it. -/
import Derived.Test.YtonmdlhlkacppaaDoorJS
namespace Go.Proofs.YtonmdlhlkacppaaDoor
open Go.RowKit
set_option linter.unusedVariables false
set_option linter.unusedSimpArgs false

/-- A word: its kind, its text, its number, its place. -/
structure Wo where
  k : Nat
  t : ByteArray
  n : Nat
  a : Nat
/-- A tree. -/
inductive Tr where
  | nd (op name : ByteArray) (kind : Nat) (n : Int) (at_ : Nat) (kids : List Tr)
def Tr.op : Tr → ByteArray | .nd o _ _ _ _ _ => o
def Tr.name : Tr → ByteArray | .nd _ o _ _ _ _ => o
def Tr.kind : Tr → Nat | .nd _ _ o _ _ _ => o
def Tr.n : Tr → Int | .nd _ _ _ o _ _ => o
def Tr.pl : Tr → Nat | .nd _ _ _ _ o _ => o
def Tr.kids : Tr → List Tr | .nd _ _ _ _ _ o => o
def Tr.zero : Tr := .nd ⟨#[]⟩ ⟨#[]⟩ 0 0 0 []
def tw (l : List Wo) : ByteArray := match l with | [] => ⟨#[]⟩ | x :: _ => x.t
def kw (l : List Wo) : Nat := match l with | [] => 0 | x :: _ => x.k
def nw (l : List Wo) : Nat := match l with | [] => 0 | x :: _ => x.n
def aw (l : List Wo) : Nat := match l with | [] => 0 | x :: _ => x.a
/-- What a part of the parser answers: a tree, or none; the words left; where a limit was passed. -/
structure Rs where
  t : Option Tr
  l : List Wo
  o : Option Nat
def passO (o : Option Nat) (l : List Wo) : Option Nat := match o with | some a => some a | none => some (aw l)
def eqB (a b : ByteArray) : Bool := a.data.toList == b.data.toList
def sNAME : ByteArray := ⟨#[78, 65, 77, 69]⟩
def sKIND : ByteArray := ⟨#[75, 73, 78, 68]⟩
def sLIT : ByteArray := ⟨#[76, 73, 84]⟩
def sEXPR : ByteArray := ⟨#[69, 88, 80, 82]⟩
def kindF (t : ByteArray) : Nat :=
  if eqB t ⟨#[98, 111, 111, 108]⟩ then 1 else if eqB t ⟨#[99, 111, 117, 110, 116]⟩ then 2 else if eqB t ⟨#[109, 111, 110, 101, 121]⟩ then 3
  else if eqB t ⟨#[114, 97, 116, 101]⟩ then 4 else if eqB t ⟨#[100, 97, 116, 101]⟩ then 5 else if eqB t ⟨#[109, 111, 110, 101, 121, 115]⟩ then 6 else 0
def lit1 (kind : Nat) (n : Nat) (a : Nat) : Tr := .nd ⟨#[108, 105, 116]⟩ ⟨#[]⟩ kind n a []
def litF (l : List Wo) : Option Tr :=
  if kw l = 3 then some (lit1 2 (nw l) (aw l)) else if kw l = 4 then some (lit1 3 (nw l) (aw l)) else if kw l = 5 then some (lit1 4 (nw l) (aw l)) else if kw l = 6 then some (lit1 5 (nw l) (aw l))
  else if eqB (tw l) ⟨#[116, 114, 117, 101]⟩ then some (lit1 1 1 (aw l)) else if eqB (tw l) ⟨#[102, 97, 108, 115, 101]⟩ then some (lit1 1 (nw l) (aw l)) else none
def Tr.add (t k : Tr) : Tr := match t with | .nd o m d n a ks => .nd o m d n a (ks ++ [k])
def Tr.setName (t : Tr) (s : ByteArray) : Tr := match t with | .nd o _ d n a ks => .nd o s d n a ks
def Tr.setKind (t : Tr) (k : Nat) : Tr := match t with | .nd o m d n a ks => .nd o m k d a ks
abbrev Ex := Nat → List Wo → Option Nat → Rs
def formF (E : Ex) (deep : Nat) : List ByteArray → Tr → List Wo → Option Nat → Rs
  | [], n, l, o => ⟨some n, l, o⟩
  | p :: ps, n, l, o =>
    if eqB p sNAME then (if kw l = 1 then formF E deep ps (n.setName (tw l)) l.tail o else ⟨none, l, o⟩)
    else if eqB p sKIND then (if kindF (tw l) = 0 then ⟨none, l, o⟩ else formF E deep ps (n.setKind (kindF (tw l))) l.tail o)
    else if eqB p sLIT then (match litF l with | none => ⟨none, l, o⟩ | some t => formF E deep ps (n.add t) l.tail o)
    else if eqB p sEXPR then (match E (deep + 1) l o with | ⟨none, l', o'⟩ => ⟨none, l', o'⟩ | ⟨some t, l', o'⟩ => formF E deep ps (n.add t) l' o')
    else if eqB (tw l) p then formF E deep ps n l.tail o else ⟨none, l, o⟩
def lvF (t : ByteArray) : Int :=
  if eqB t ⟨#[111, 114]⟩ then 0 else if eqB t ⟨#[97, 110, 100]⟩ then 1
  else if eqB t ⟨#[60]⟩ || eqB t ⟨#[60, 61]⟩ || eqB t ⟨#[62]⟩ || eqB t ⟨#[62, 61]⟩ || eqB t ⟨#[61, 61]⟩ || eqB t ⟨#[33, 61]⟩ then 2
  else if eqB t ⟨#[43]⟩ || eqB t ⟨#[45]⟩ then 3 else if eqB t ⟨#[42]⟩ || eqB t ⟨#[47]⟩ then 4 else -1
def loopF (B : List Wo → Option Nat → Rs) (lv : Nat) : Nat → Tr → List Wo → Option Nat → Rs
  | 0, n, l, o => ⟨some n, l, o⟩
  | f + 1, n, l, o =>
    if lvF (tw l) = (lv : Nat) then
      match B l.tail o with
      | ⟨none, l', o'⟩ => ⟨none, l', o'⟩
      | ⟨some r, l', o'⟩ => if lv = 2 then ⟨some (.nd (tw l) ⟨#[]⟩ 0 0 (aw l) [n, r]), l', o'⟩ else loopF B lv f (.nd (tw l) ⟨#[]⟩ 0 0 (aw l) [n, r]) l' o'
    else ⟨some n, l, o⟩
def binF (U : List Wo → Option Nat → Rs) : Nat → List Wo → Option Nat → Rs
  | 0, l, o => U l o
  | m + 1, l, o =>
    match binF U m l o with
    | ⟨none, l', o'⟩ => ⟨none, l', o'⟩
    | ⟨some n, l', o'⟩ => loopF (binF U m) (4 - m) l'.length n l' o'
def op0 (op : ByteArray) (a : Nat) : Tr := .nd op ⟨#[]⟩ 0 0 a []
def kidF (r : Rs) : Rs := match r with | ⟨none, l', o'⟩ => ⟨none, l', o'⟩ | ⟨some n, l', o'⟩ => ⟨n.kids.head?, l', o'⟩
def sOpen : ByteArray := ⟨#[40]⟩
def sShut : ByteArray := ⟨#[41]⟩
def sComma : ByteArray := ⟨#[44]⟩
def sColon : ByteArray := ⟨#[58]⟩
def sSemi : ByteArray := ⟨#[59]⟩
def sEq : ByteArray := ⟨#[61]⟩
def sBrace : ByteArray := ⟨#[123]⟩
def sEnd : ByteArray := ⟨#[125]⟩
def sMin : ByteArray := ⟨#[109, 105, 110]⟩
def sMax : ByteArray := ⟨#[109, 97, 120]⟩
def sLen : ByteArray := ⟨#[108, 101, 110]⟩
def sAt : ByteArray := ⟨#[97, 116]⟩
def sSum : ByteArray := ⟨#[115, 117, 109]⟩
def sIn : ByteArray := ⟨#[105, 110]⟩
def sIf : ByteArray := ⟨#[105, 102]⟩
def sThen : ByteArray := ⟨#[116, 104, 101, 110]⟩
def sElse : ByteArray := ⟨#[101, 108, 115, 101]⟩
def sName : ByteArray := ⟨#[110, 97, 109, 101]⟩
def sNeg : ByteArray := ⟨#[110, 101, 103]⟩
def sNot : ByteArray := ⟨#[110, 111, 116]⟩
def sMinus : ByteArray := ⟨#[45]⟩
def sInput : ByteArray := ⟨#[105, 110, 112, 117, 116]⟩
def sRule : ByteArray := ⟨#[114, 117, 108, 101]⟩
def sTable : ByteArray := ⟨#[116, 97, 98, 108, 101]⟩
def sRow : ByteArray := ⟨#[114, 111, 119]⟩
def sStatute : ByteArray := ⟨#[115, 116, 97, 116, 117, 116, 101]⟩
def litR (l : List Wo) (o : Option Nat) : Rs := match litF l with | none => ⟨none, l, o⟩ | some t => ⟨some t, l.tail, o⟩
def primF (E : Ex) (deep : Nat) (l : List Wo) (o : Option Nat) : Rs :=
  if kw l = 1 then ⟨some (.nd sName (tw l) 0 0 (aw l) []), l.tail, o⟩
  else if eqB (tw l) sOpen then kidF (formF E deep [sOpen, sEXPR, sShut] (op0 ⟨#[]⟩ (aw l)) l o)
  else if eqB (tw l) sMin || eqB (tw l) sMax then formF E deep [tw l, sOpen, sEXPR, sComma, sEXPR, sShut] (op0 (tw l) (aw l)) l o
  else if eqB (tw l) sLen then formF E deep [sLen, sOpen, sEXPR, sShut] (op0 sLen (aw l)) l o
  else if eqB (tw l) sAt then formF E deep [sAt, sOpen, sNAME, sComma, sEXPR, sShut] (op0 sAt (aw l)) l o
  else if eqB (tw l) sSum then formF E deep [sSum, sOpen, sNAME, sIn, sEXPR, sColon, sEXPR, sShut] (op0 sSum (aw l)) l o
  else litR l o
def turnF (U : Ex) (op : ByteArray) (deep : Nat) (l : List Wo) (o : Option Nat) : Rs :=
  match U (deep + 1) l.tail (if 40 < deep + 1 then passO o l.tail else o) with
  | ⟨none, l', o'⟩ => ⟨none, l', o'⟩
  | ⟨some t, l', o'⟩ => ⟨some (.nd op ⟨#[]⟩ 0 0 (aw l) [t]), l', o'⟩
def unF (U E : Ex) (deep : Nat) (l : List Wo) (o : Option Nat) : Rs :=
  if eqB (tw l) sMinus then turnF U sNeg deep l o else if eqB (tw l) sNot then turnF U sNot deep l o else primF E deep l o
def exprF (U E : Ex) (deep : Nat) (l : List Wo) (o : Option Nat) : Rs :=
  if eqB (tw l) sIf then formF E deep [sIf, sEXPR, sThen, sEXPR, sElse, sEXPR] (op0 sIf (aw l)) l (if 40 < deep then passO o l else o)
  else binF (unF U E deep) 5 l (if 40 < deep then passO o l else o)
def recU : Nat → Ex × Ex
  | 0 => (fun _ l o => ⟨none, l, o⟩, fun _ l o => ⟨none, l, o⟩)
  | f + 1 => (unF (recU f).1 (recU f).2, exprF (recU f).1 (recU f).2)
def rowF (last : Bool) (l : List Wo) (o : Option Nat) : Rs :=
  if last then formF (recU l.length).2 0 [sElse, sLIT] (op0 sRow (aw l)) l o else formF (recU l.length).2 0 [sLIT, sColon, sLIT, sComma] (op0 sRow (aw l)) l o
def rowsF : Nat → Tr → List Wo → Option Nat → Rs
  | 0, n, l, o => ⟨none, l, o⟩
  | f + 1, n, l, o =>
    match rowF (eqB (tw l) sElse) l (if 32 ≤ n.kids.length then passO o l else o) with
    | ⟨none, l', o'⟩ => ⟨none, l', o'⟩
    | ⟨some r, l', o'⟩ => if eqB (tw l) sElse then (if eqB (tw l') sEnd then ⟨some (n.add r), l'.tail, o'⟩ else ⟨none, l', o'⟩) else rowsF f (n.add r) l' o'
def tableF (l : List Wo) (o : Option Nat) : Rs :=
  match formF (recU l.length).2 0 [sTable, sNAME, sKIND, sKIND, sBrace] (op0 sTable (aw l)) l o with
  | ⟨none, l', o'⟩ => ⟨none, l', o'⟩
  | ⟨some n, l', o'⟩ => rowsF l'.length n l' o'
def declF (l : List Wo) (o : Option Nat) : Rs :=
  if eqB (tw l) sInput then formF (recU l.length).2 0 [sInput, sNAME, sKIND, sSemi] (op0 sInput (aw l)) l o
  else if eqB (tw l) sRule then formF (recU l.length).2 0 [sRule, sNAME, sKIND, sEq, sEXPR, sSemi] (op0 sRule (aw l)) l o
  else if eqB (tw l) sTable then tableF l o else ⟨none, l, o⟩
def declsF : Nat → Tr → List Wo → Option Nat → Rs
  | 0, n, l, o => ⟨some n, l, o⟩
  | f + 1, n, l, o =>
    if l.length ≤ 1 then ⟨some n, l, o⟩ else
    match declF l o with
    | ⟨none, l', o'⟩ => ⟨none, l', o'⟩
    | ⟨some r, l', o'⟩ => declsF f (n.add r) l' o'
def statF (l : List Wo) : Rs := declsF l.length (op0 sStatute (aw l)) l none
/-- What Parse answers of words: a tree, or where which error is. -/
def parF (l : List Wo) : Tr ⊕ (Nat × Nat) :=
  match statF l with
  | ⟨none, l', _⟩ => .inr (aw l', 7)
  | ⟨some t, _, some a⟩ => .inr (a, 2)
  | ⟨some t, _, none⟩ => .inl t
def wo (s : ByteArray) (x : Wd) : Wo := ⟨x.1, s.extract x.2.2.2 (x.2.2.2 + x.2.1), x.2.2.1, x.2.2.2⟩
def parse (s : ByteArray) : Tr ⊕ (Nat × Nat) :=
  if 8192 < s.size then .inr (0, 2) else
  match cutF s 0 with
  | (_, some b) => .inr (b, 7)
  | (R, none) => parF (R.map (wo s))
end Go.Proofs.YtonmdlhlkacppaaDoor

namespace Go.Proofs.YtonmdlhlkacppaaDoor
open Go.RowKit
set_option linter.unusedVariables false
set_option linter.unusedSimpArgs false

structure Sp where
  l : List Wo
  b : Option Nat
  e : Bool
def Sp.ok (s : Sp) : Bool := s.b.isNone
def Sp.nx (s : Sp) : Sp := ⟨s.l.tail, s.b, s.e⟩
def Sp.fail (s : Sp) : Sp := ⟨s.l, some (s.b.getD (aw s.l)), s.e⟩
def Sp.lim (s : Sp) : Sp := ⟨s.l, some (s.b.getD (aw s.l)), s.b.isNone || s.e⟩
def Sp.is (s : Sp) (t : ByteArray) : Bool := s.ok && (kw s.l == 2 || kw s.l == 7) && eqB (tw s.l) t
def Sp.want (s : Sp) (t : ByteArray) : Sp := if s.is t then s.nx else s.fail
def Sp.nm (s : Sp) : ByteArray × Sp := if s.ok && kw s.l == 1 then (tw s.l, s.nx) else (⟨#[]⟩, s.fail)
def Sp.kd (s : Sp) : Nat × Sp := if s.ok && kw s.l == 2 && kindF (tw s.l) != 0 then (kindF (tw s.l), s.nx) else (0, s.fail)
def sTrue : ByteArray := ⟨#[116, 114, 117, 101]⟩
def sFalse : ByteArray := ⟨#[102, 97, 108, 115, 101]⟩
def Sp.islit (s : Sp) : Bool := s.ok && ((3 ≤ kw s.l && kw s.l ≤ 6) || s.is sTrue || s.is sFalse)
def litV (l : List Wo) : Tr :=
  if kw l = 3 then lit1 2 (nw l) (aw l) else if kw l = 4 then lit1 3 (nw l) (aw l) else if kw l = 5 then lit1 4 (nw l) (aw l) else if kw l = 6 then lit1 5 (nw l) (aw l)
  else lit1 1 (if eqB (tw l) sTrue then 1 else nw l) (aw l)
def Sp.lit (s : Sp) : Tr × Sp := if s.islit then (litV s.l, s.nx) else (Tr.zero, s.fail)
abbrev Ax := Sp → Tr × Sp
def opAt (lv : Nat) (s : Sp) : Bool := s.ok && (kw s.l == 2 || kw s.l == 7) && (lvF (tw s.l) == (lv : Int))
def two (op : ByteArray) (a : Nat) (x y : Tr) : Tr := .nd op ⟨#[]⟩ 0 0 a [x, y]
def one (op name : ByteArray) (a : Nat) (x : Tr) : Tr := .nd op name 0 0 a [x]
def loopX (B : Ax) (lv : Nat) : Nat → Tr → Sp → Tr × Sp
  | 0, a, s => (a, s)
  | f + 1, a, s =>
    if opAt lv s then
      if lv = 2 then (two (tw s.l) (aw s.l) a (B s.nx).1, (B s.nx).2) else loopX B lv f (two (tw s.l) (aw s.l) a (B s.nx).1) (B s.nx).2
    else (a, s)
def rowR (U : Ax) : Nat → Ax
  | 0, s => U s
  | m + 1, s => loopX (rowR U m) (4 - m) (rowR U m s).2.l.length (rowR U m s).1 (rowR U m s).2
/-- What begins with a word and a bracket: two expressions within. -/
def pairR (E : Ax) (op : ByteArray) (s : Sp) : Tr × Sp :=
  let a := E (s.nx.want sOpen)
  let b := E (a.2.want sComma)
  (two op (aw s.l) a.1 b.1, b.2.want sShut)
def openR (E : Ax) (s : Sp) : Tr × Sp := ((E s.nx).1, (E s.nx).2.want sShut)
def lenR (E : Ax) (s : Sp) : Tr × Sp :=
  let a := E (s.nx.want sOpen)
  (one sLen ⟨#[]⟩ (aw s.l) a.1, a.2.want sShut)
def atR (E : Ax) (s : Sp) : Tr × Sp :=
  let n := (s.nx.want sOpen).nm
  let a := E (n.2.want sComma)
  (one sAt n.1 (aw s.l) a.1, a.2.want sShut)
def sumR (E : Ax) (s : Sp) : Tr × Sp :=
  let n := (s.nx.want sOpen).nm
  let a := E (n.2.want sIn)
  let b := E (a.2.want sColon)
  (.nd sSum n.1 0 0 (aw s.l) [a.1, b.1], b.2.want sShut)
def primR (E : Ax) (s : Sp) : Tr × Sp :=
  if s.islit then s.lit else if s.is sMin then pairR E sMin s else if s.is sMax then pairR E sMax s
  else if s.is sOpen then openR E s else if s.is sLen then lenR E s else if s.is sAt then atR E s else if s.is sSum then sumR E s
  else (.nd sName s.nm.1 0 0 (aw s.l) [], s.nm.2)
/-- Behind a sign: an un one deeper (none: it would be too deep). -/
def trnR (U : Option Ax) (op : ByteArray) (s : Sp) : Tr × Sp :=
  match U with
  | none => (Tr.zero, s.nx.lim)
  | some U => (one op ⟨#[]⟩ (aw s.l) (U s.nx).1, (U s.nx).2)
def unR (U : Option Ax) (E : Ax) (s : Sp) : Tr × Sp :=
  if s.is sMinus then trnR U sNeg s else if s.is sNot then trnR U sNot s else primR E s
def ifR (E : Ax) (s : Sp) : Tr × Sp :=
  let a := E s.nx
  let b := E (a.2.want sThen)
  let c := E (b.2.want sElse)
  (.nd sIf ⟨#[]⟩ 0 0 (aw s.l) [a.1, b.1, c.1], c.2)
def insR (U E : Ax) (s : Sp) : Tr × Sp := if s.is sIf then ifR E s else rowR U 5 s
def exR (R : Option (Ax × Ax)) (s : Sp) : Tr × Sp :=
  if s.ok then (match R with | none => (Tr.zero, s.lim) | some (U, E) => insR U E s) else (Tr.zero, s)
/-- un and expr, where so many depths are left. -/
def recR : Nat → Ax × Ax
  | 0 => (unR none (exR none), exR none)
  | n + 1 => (unR (some (recR n).1) (exR (some (recR n))), exR (some (recR n)))
def rowT (a : Nat) (ks : List Tr) : Tr := .nd sRow ⟨#[]⟩ 0 0 a ks
def rowsX : Nat → List Tr → Sp → List Tr × Sp
  | 0, ks, s => (ks, s)
  | f + 1, ks, s =>
    if s.ok && !s.is sElse then
      if ks.length = 32 then (ks, s.lim)
      else
        let a := s.lit
        let b := (a.2.want sColon).lit
        rowsX f (ks ++ [rowT (aw s.l) [a.1, b.1]]) (b.2.want sComma)
    else (ks, s)
def tabR (s : Sp) : List Tr × Sp :=
  let r := rowsX 33 [] s
  let t := if r.2.ok && r.1.length == 32 then r.2.lim else r.2
  let b := (t.want sElse).lit
  (r.1 ++ [rowT (aw t.l) [b.1]], b.2.want sEnd)
def declX (E : Ax) (s : Sp) : Tr × Sp :=
  if s.is sInput then
    let n := s.nx.nm
    let k := n.2.kd
    (.nd sInput n.1 k.1 0 (aw s.l) [], k.2.want sSemi)
  else if s.is sRule then
    let n := s.nx.nm
    let k := n.2.kd
    let e := E (k.2.want sEq)
    (.nd sRule n.1 k.1 0 (aw s.l) [e.1], e.2.want sSemi)
  else if s.is sTable then
    let n := s.nx.nm
    let k := n.2.kd
    let h := k.2.kd
    let r := tabR (h.2.want sBrace)
    (.nd sTable n.1 h.1 (k.1 : Nat) (aw s.l) r.1, r.2)
  else (.nd ⟨#[]⟩ ⟨#[]⟩ 0 0 (aw s.l) [], s.fail)
def declsX (E : Ax) : Nat → List Tr → Sp → List Tr × Sp
  | 0, ks, s => (ks, s)
  | f + 1, ks, s => if s.ok && kw s.l != 0 then declsX E f (ks ++ [(declX E s).1]) (declX E s).2 else (ks, s)
/-- What the reference's Parse answers of words: a tree, or where it fails and whether for a limit. -/
def parX (l : List Wo) : Tr ⊕ (Nat × Bool) :=
  let r := declsX (recR 40).2 l.length [] ⟨l, none, false⟩
  match r.2.b with
  | none => .inl (.nd sStatute ⟨#[]⟩ 0 0 (aw l) r.1)
  | some a => .inr (a, r.2.e)
def parseX (s : ByteArray) : Tr ⊕ (Nat × Bool) :=
  match cutF s 0 with
  | (_, some b) => .inr (b, false)
  | (R, none) => parX (R.map (wo s))
end Go.Proofs.YtonmdlhlkacppaaDoor

