/- Words of a statute in plain numbers: runs of digits and of a name, figures, what word begins at a place, how a text is cut. -/
import Derived.Test.YtobolipjgkabhaaDoorRR
namespace Go.Proofs.YtobolipjgkabhaaDoor
set_option linter.unusedVariables false
set_option linter.unusedSimpArgs false

def isLet (c : UInt8) : Bool := decide (97 ≤ (c.toNat : Int)) && decide ((c.toNat : Int) ≤ 122)
def isNm (c : UInt8) : Bool := isLet c || isDig c || (c.toNat : Int) == 95
def isBl (c : UInt8) : Bool := (c.toNat : Int) == 32 || (c.toNat : Int) == 9 || (c.toNat : Int) == 10 || (c.toNat : Int) == 13

def runD : List UInt8 → Nat
  | [] => 0
  | c :: l => if isDig c then runD l + 1 else 0
def runN : List UInt8 → Nat
  | [] => 0
  | c :: l => if isNm c then runN l + 1 else 0
def runC : List UInt8 → Nat
  | [] => 0
  | c :: l => if c.toNat = 10 then 0 else runC l + 1
def fig (n : Nat) : List UInt8 → Nat
  | [] => n
  | c :: l => fig (10 * n + (c.toNat - 48)) l
def hd : List UInt8 → Nat
  | [] => 0
  | c :: _ => c.toNat
def tx (l : List UInt8) : ByteArray := ⟨l.toArray⟩

def dotW (l : List UInt8) : Nat := if hd l = 46 ∧ runD (l.drop 1) ≠ 0 then 1 + runD (l.drop 1) else 0
def dayW : List UInt8 → Option Nat
  | c0 :: c1 :: c2 :: c3 :: c4 :: c5 :: c6 :: c7 :: c8 :: c9 :: l =>
    if runD l ≠ 0 then none else if rdB c0 c1 c2 c3 c4 c5 c6 c7 c8 c9 then some (rdN c0 c1 c2 c3 c4 c5 c6 c7 c8 c9).toNat else none
  | _ => none
def pctW (l : List UInt8) : Nat := if dotW l ≤ 5 then dotW l else 0
def pad4 (l : List UInt8) : List UInt8 := (l ++ [48, 48, 48, 48]).take 4
def rateV (l : List UInt8) : Nat := fig (fig 0 (l.take (runD l))) (pad4 (((l.drop (runD l)).take (pctW (l.drop (runD l)))).drop 1))
def isPct (l : List UInt8) : Bool := decide (hd (l.drop (runD l + pctW (l.drop (runD l)))) = 37)
def numW (l : List UInt8) : Option (Nat × Nat × Nat) :=
  match dayW l with
  | some n => some (6, 10, n)
  | none =>
    if isPct l then (if rateV l ≤ 1000000000000 then some (5, runD l + pctW (l.drop (runD l)) + 1, rateV l) else none)
    else if fig 0 (l.take (runD l)) ≤ 4503599627370496 then some (3, runD l, fig 0 (l.take (runD l))) else none
def monK (l : List UInt8) : Nat := runD (l.drop 1)
def monP (l : List UInt8) : Nat := if dotW (l.drop (1 + monK l)) = 3 then 3 else 0
def monV (l : List UInt8) : Nat := fig (fig 0 ((l.drop 1).take (monK l))) (if dotW (l.drop (1 + monK l)) = 3 then ((l.drop (1 + monK l)).take 3).drop 1 else [48, 48])
def monW (l : List UInt8) : Option (Nat × Nat × Nat) :=
  if monK l = 0 then none else if monV l ≤ 4503599627370496 then some (4, 1 + monK l + monP l, monV l) else none

def keptB (l : List UInt8) : Bool := l == [105, 110, 112, 117, 116] || l == [114, 117, 108, 101] || l == [116, 97, 98, 108, 101] || l == [98, 111, 111, 108] || l == [99, 111, 117, 110, 116] || l == [109, 111, 110, 101, 121] || l == [114, 97, 116, 101] || l == [100, 97, 116, 101] || l == [109, 111, 110, 101, 121, 115] || l == [105, 102] || l == [116, 104, 101, 110] || l == [101, 108, 115, 101] || l == [97, 110, 100] || l == [111, 114] || l == [110, 111, 116] || l == [109, 105, 110] || l == [109, 97, 120] || l == [115, 117, 109] || l == [105, 110] || l == [108, 101, 110] || l == [97, 116] || l == [116, 114, 117, 101] || l == [102, 97, 108, 115, 101]
def namW (l : List UInt8) : Option (Nat × Nat × Nat) := if runN l ≤ 32 then some (if keptB (l.take (runN l)) then 2 else 1, runN l, 0) else none
def two2 (a b : Nat) : Bool := b == 61 && (a == 60 || a == 62 || a == 61 || a == 33)
def one1 (a : Nat) : Bool := a == 40 || a == 41 || a == 123 || a == 125 || a == 91 || a == 93 || a == 44 || a == 59 || a == 58 || a == 61 || a == 43 || a == 45 || a == 42 || a == 47 || a == 60 || a == 62
def sgnN (l : List UInt8) : Nat := if two2 (hd l) (hd (l.drop 1)) then 2 else if one1 (hd l) then 1 else 0
def sgnW (l : List UInt8) : Option (Nat × Nat × Nat) := if sgnN l = 0 then none else some (7, sgnN l, 0)
def wd : List UInt8 → Option (Nat × Nat × Nat)
  | [] => none
  | c :: l => if isLet c then namW (c :: l) else if c.toNat = 36 then monW (c :: l) else if isDig c then numW (c :: l) else sgnW (c :: l)

/- a text that is cut: the words (kind, length, number, place) and where it fails, if it does -/
def cutG : Nat → Nat → List UInt8 → List (Nat × Nat × Nat × Nat) × Option Nat
  | 0, a, _ => ([(0, 0, 0, a)], none)
  | f + 1, a, [] => ([(0, 0, 0, a)], none)
  | f + 1, a, c :: l =>
    if isBl c then cutG f (a + 1) l
    else if c.toNat = 35 then cutG f (a + runC (c :: l)) ((c :: l).drop (runC (c :: l)))
    else match wd (c :: l) with
      | none => ([], some a)
      | some (k, n, v) => match cutG f (a + n) ((c :: l).drop n) with
        | (r, none) => ((k, n, v, a) :: r, none)
        | (r, some b) => ([], some b)
def tl (s : ByteArray) (a : Nat) : List UInt8 := s.data.toList.drop a
def cutF (s : ByteArray) (a : Nat) : List (Nat × Nat × Nat × Nat) × Option Nat := cutG (s.size - a) a (tl s a)
end Go.Proofs.YtobolipjgkabhaaDoor
