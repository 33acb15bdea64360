/- Parts of the proof. -/
import Derived.Test.YteknljnjcoehoaaGreatDoorPa
import Derived.Lib.SlicesCompact
namespace Go.Proofs.YteknljnjcoehoaaGreatDoor
open Go.RowKit
set_option linter.unusedVariables false
set_option linter.unusedSimpArgs false
theorem mem_upTo {α:Type} [Inhabited α] [DecidableEq α] (d:Array α) (a:α):∀ m,a ∈ Lib.compactUpTo d m ↔ ∃ j,j<m∧d[j]! =a
 | 0=>by
  unfold Lib.compactUpTo
  simp
 | m+1=>by
  rw [Lib.compactUpTo_succ,List.mem_append,mem_upTo d a m]
  constructor
  ·rintro (⟨j,h1,h2⟩ | h)
   ·exact ⟨j,by omega,h2⟩
   ·by_cases k:Lib.keeps d m=true
    ·rw [if_pos k] at h
     exact ⟨m,by omega,(by simpa using h:a=d[m]!).symm⟩
    ·rw [if_neg k] at h
     simp at h
  ·rintro ⟨j,h1,h2⟩
   by_cases c:j<m
   ·exact Or.inl ⟨j,c,h2⟩
   ·obtain rfl:j=m:=by omega
    by_cases k:Lib.keeps d j=true
    ·exact Or.inr (by rw [if_pos k];simp [h2])
    ·have k':¬ (j=0∨d[j]!≠d[j - 1]!):=by unfold Lib.keeps at k;simpa using k
     have j0:j≠0:=fun e=>k' (Or.inl e)
     have e:d[j]! =d[j - 1]!:=Decidable.byContradiction fun e=>k' (Or.inr e)
     exact Or.inl ⟨j - 1,by omega,by rw [← e];exact h2⟩
theorem mem_compact {α:Type} [Inhabited α] [DecidableEq α] (l:List α) (a:α):a ∈ Lib.compact l ↔ a ∈ l:=by
 unfold Lib.compact
 rw [mem_upTo]
 constructor
 ·rintro ⟨j,h1,h2⟩
  rw [getElem!_pos _ _ (by simpa using h1)] at h2
  rw [← h2]
  simp
 ·intro h
  obtain ⟨j,h1,h2⟩:=List.mem_iff_getElem.1 h
  exact ⟨j,h1,by rw [getElem!_pos _ _ (by simpa using h1)];simpa using h2⟩
def srtB (l:List ByteArray):List (List UInt8):=Lib.compact ((l.map (·.data.toList)).mergeSort fun x y=>decide (x≤y))
def srtN (l:List ByteArray):List ByteArray:=(srtB l).map fun b=>⟨b.toArray⟩
theorem mem_srtN (l:List ByteArray) (a:ByteArray):a ∈ srtN l ↔ a ∈ l:=by
 unfold srtN srtB
 simp only [List.mem_map,mem_compact,List.mem_mergeSort]
 constructor
 ·rintro ⟨x,⟨y,hy,rfl⟩,rfl⟩
  simpa using hy
 ·intro h
  exact ⟨_,⟨a,h,rfl⟩,by simp⟩
theorem srtN_len (l:List ByteArray):(srtN l).length=(srtB l).length:=by unfold srtN;rw [List.length_map]
def lookAll (rn:List ByteArray) (d:Tr):List ByteArray:=d.kids.flatMap (lookT rn [])
def namR (ks:List Tr) (nm:ByteArray):List ByteArray :=
 match ks.find? (fun k=>eqB k.op ⟨#[114,117,108,101]⟩ && eqB k.name nm) with
 | none=>[]
 | some d=>srtN (lookAll (rnF ks) d)
abbrev Ln:=ByteArray × List ByteArray
def leansF (ks:List Tr):List Ln:=(rnF ks).map fun r=>(r,namR ks r)
def hasN (l:List ByteArray) (x:ByteArray):Bool:=l.any fun y=>eqB x y
def freeW (l:Ln) (W:List Ln):Bool:=!W.any fun w=>hasN l.2 w.1
def sortF:Nat→List Ln→List ByteArray→Option (List ByteArray)
 | 0,W,acc=>some acc
 | f+1,W,acc =>
  match W.findIdx? (fun l=>freeW l W) with
  | none=>none
  | some i=>sortF f (W.eraseIdx i) (acc ++ [((W[i]?).getD (⟨#[]⟩,[])).1])
def sorF (ks:List Tr):Option (List ByteArray):=sortF (leansF ks).length (leansF ks) []
theorem hasN_iff (l:List ByteArray) (x:ByteArray):hasN l x=true ↔ x ∈ l:=by
 unfold hasN
 rw [List.any_eq_true]
 constructor
 ·rintro ⟨y,h1,h2⟩
  rw [eqB_eqX h2];exact h1
 ·intro h
  exact ⟨x,h,by unfold eqB;simp⟩
end Go.Proofs.YteknljnjcoehoaaGreatDoor
