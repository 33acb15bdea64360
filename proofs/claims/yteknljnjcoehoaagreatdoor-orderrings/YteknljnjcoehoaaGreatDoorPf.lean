/- Parts of the proof. -/
import Derived.Test.YteknljnjcoehoaaGreatDoorPd
import Derived.Shelf.Sort.Plain
import Derived.Shelf.Slices.CompactS
import Derived.Shelf.Slices.In.SortNone
import Derived.Sort.OwnSorted
import Derived.Lib.OwnBridge
import Derived.KernelRfl
namespace Go.Proofs.YteknljnjcoehoaaGreatDoor
open Go.RowKit
open Go.Shelf Go.RowKit Go.Sort
set_option linter.unusedVariables false
set_option linter.unusedSimpArgs false
def renSort:Ren:=⟨fun | 125=>104 | 128=>160 | 129=>161 | 190=>56 | 258=>103 | 302=>151 | 303=>152 | 304=>153 | 305=>154 | 306=>155 | 307=>156 | 308=>157 | 309=>158 | 310=>159 | 329=>188 | 330=>189 | 333=>187 | 334=>190 | 335=>191 | 336=>192 | 344=>202 | n=>n,fun | 0=>0 | 3=>3 | 4=>4 | 5=>5 | 9=>9 | 31=>32 | 46=>159 | 51=>208 | 53=>179 | 131=>154 | 182=>200 | 183=>201 | 218=>228 | 222=>232 | 228=>244 | 229=>245 | n=>n,fun n=>n⟩
theorem laysSort:Lays.n190 Tryz.prog renSort :=
 {
  mixed:=by kernel_rfl
  f125:=by kernel_rfl
  f128:=by kernel_rfl
  f129:=by kernel_rfl
  f190:=by kernel_rfl
  f258:=by kernel_rfl
  f302:=by kernel_rfl
  f303:=by kernel_rfl
  f304:=by kernel_rfl
  f305:=by kernel_rfl
  f306:=by kernel_rfl
  f307:=by kernel_rfl
  f308:=by kernel_rfl
  f309:=by kernel_rfl
  f310:=by kernel_rfl
  f329:=by kernel_rfl
  f330:=by kernel_rfl
  f333:=by kernel_rfl
  f334:=by kernel_rfl
  f335:=by kernel_rfl
  f336:=by kernel_rfl
  f344:=by kernel_rfl
  t0:=by kernel_rfl
  a0:=fun _=>by kernel_rfl
  z0:=fun _=>by kernel_rfl
  v0:=fun _=>by kernel_rfl
  t3:=by kernel_rfl
  a3:=fun _=>by kernel_rfl
  z3:=fun _=>by kernel_rfl
  v3:=fun _=>by kernel_rfl
  t4:=by kernel_rfl
  a4:=fun _=>by kernel_rfl
  z4:=fun _=>by kernel_rfl
  v4:=fun _=>by kernel_rfl
  t5:=by kernel_rfl
  a5:=fun _=>by kernel_rfl
  z5:=fun _=>by kernel_rfl
  v5:=fun _=>by kernel_rfl
  t9:=by kernel_rfl
  a9:=fun _=>by kernel_rfl
  z9:=fun _=>by kernel_rfl
  v9:=fun _=>by kernel_rfl
  t31:=by kernel_rfl
  a31:=fun _=>by kernel_rfl
  z31:=fun _=>by kernel_rfl
  v31:=fun _=>by kernel_rfl
  t46:=by kernel_rfl
  a46:=fun _=>by kernel_rfl
  z46:=fun _=>by kernel_rfl
  v46:=fun _=>by kernel_rfl
  t51:=by kernel_rfl
  a51:=fun _=>by kernel_rfl
  z51:=fun _=>by kernel_rfl
  v51:=fun _=>by kernel_rfl
  t53:=by kernel_rfl
  a53:=fun _=>by kernel_rfl
  z53:=fun _=>by kernel_rfl
  v53:=fun _=>by kernel_rfl
  t131:=by kernel_rfl
  a131:=fun _=>by kernel_rfl
  z131:=fun _=>by kernel_rfl
  v131:=fun _=>by kernel_rfl
  t182:=by kernel_rfl
  a182:=fun _=>by kernel_rfl
  z182:=fun _=>by kernel_rfl
  v182:=fun _=>by kernel_rfl
  t183:=by kernel_rfl
  a183:=fun _=>by kernel_rfl
  z183:=fun _=>by kernel_rfl
  v183:=fun _=>by kernel_rfl
  t218:=by kernel_rfl
  a218:=fun _=>by kernel_rfl
  z218:=fun _=>by kernel_rfl
  v218:=fun _=>by kernel_rfl
  t222:=by kernel_rfl
  a222:=fun _=>by kernel_rfl
  z222:=fun _=>by kernel_rfl
  v222:=fun _=>by kernel_rfl
  t228:=by kernel_rfl
  a228:=fun _=>by kernel_rfl
  z228:=fun _=>by kernel_rfl
  v228:=fun _=>by kernel_rfl
  t229:=by kernel_rfl
  a229:=fun _=>by kernel_rfl
  z229:=fun _=>by kernel_rfl
  v229:=fun _=>by kernel_rfl }
def renCompact:Ren:=⟨fun | 194=>57 | n=>n,fun | 0=>0 | 3=>3 | 4=>4 | 9=>9 | 31=>32 | n=>n,fun n=>n⟩
theorem laysCompact:Lays.n194 Tryz.prog renCompact :=
 {
  mixed:=by kernel_rfl
  f194:=by kernel_rfl
  t0:=by kernel_rfl
  a0:=fun _=>by kernel_rfl
  z0:=fun _=>by kernel_rfl
  v0:=fun _=>by kernel_rfl
  t3:=by kernel_rfl
  a3:=fun _=>by kernel_rfl
  z3:=fun _=>by kernel_rfl
  v3:=fun _=>by kernel_rfl
  t4:=by kernel_rfl
  a4:=fun _=>by kernel_rfl
  z4:=fun _=>by kernel_rfl
  v4:=fun _=>by kernel_rfl
  t9:=by kernel_rfl
  a9:=fun _=>by kernel_rfl
  z9:=fun _=>by kernel_rfl
  v9:=fun _=>by kernel_rfl
  t31:=by kernel_rfl
  a31:=fun _=>by kernel_rfl
  z31:=fun _=>by kernel_rfl
  v31:=fun _=>by kernel_rfl }
theorem f190:renSort.f 190=56:=by kernel_rfl
theorem f194:renCompact.f 194=57:=by kernel_rfl
def toB (l:List UInt8):ByteArray:=⟨l.toArray⟩
theorem sv_enc (l:List ByteArray):sv l=(l.map (·.data.toList)).map encStr:=by rw [Lib.map_encStr];rfl
theorem enc_sv (l:List (List UInt8)):l.map encStr=sv (l.map toB):=by unfold sv;rw [List.map_map];rfl
def srtM (l:List ByteArray):List (List UInt8):=(l.map (·.data.toList)).mergeSort fun x y=>decide (x≤y)
theorem srtM_len (l:List ByteArray):(srtM l).length=l.length:=by unfold srtM;rw [List.length_mergeSort,List.length_map]
set_option maxRecDepth 100000 in
theorem Sort_own {w:World} {B:Nat} {v:Value} {l:List ByteArray} (h:Ow w 9 B v (sv l)) (hl:l.length≤1000000):Calls Tryz.prog 56 #[v] w fun e w'=>e=.returned (.tuple #[])∧Ow w' 9 B v (sv ((srtM l).map toB))∧w.grownBy w' v.ownBlock:=by
 rcases h.row.2 with ⟨h1,h2⟩ | ⟨g,cap,cur,hv,hb,hg,hn,hm,hs,ht⟩
 ·subst h1
  have:l=[]:=by rw [← List.length_eq_zero_iff,← sv_len];exact h2
  subst this
  refine Calls.mono (show Calls Tryz.prog 56 #[.slice none 0 0] w (fun e w'=>e=.returned (.tuple #[])∧w'=w) from by have K:=Any.slices_Sort_string_none laysSort none 0 w;rw [f190] at K;exact K) ?_
  rintro e w' ⟨rfl,rfl⟩
  exact ⟨rfl,by rw [show (srtM []).map toB=[] from by simp [srtM]];exact h,⟨rfl,rfl,rfl,Nat.le_refl _,fun _ _ _=>rfl⟩⟩
 ·have e1:v=.slice (some ⟨g,0,none⟩) (l.map (·.data.toList)).length cap:=by rw [hv,sv_len,List.length_map]
  have hl1:(sv l).length=(l.map (·.data.toList)).length:=by rw [sv_len,List.length_map]
  rw [hl1] at hn ht
  have ho:v.ownBlock=some g:=by rw [hv];rfl
  rw [ho]
  rw [e1] at h ⊢
  have hH:=holds_of_block (ss:=l.map (·.data.toList)) hg (by rw [← sv_enc,← ht,Nat.mul_one])
  have hb1:g<w.heap.size:=(Array.getElem?_eq_some_iff.1 hg).1
  have hb2:(l.map (·.data.toList)).length<4611686018427387904:=by rw [List.length_map];omega
  have K:Calls Tryz.prog 56 #[.slice (some ⟨g,0,none⟩) (l.map (·.data.toList)).length cap] w fun e w'=>e=.returned (.tuple #[])∧∃ n os,w'=grow (putRow encStr (Sort.ahead w n) g 0 (srtM l).toArray) os:=by have K:=Any.slices_Sort_string laysSort g 0 cap (l.map (·.data.toList)) w hH hb1 hb2;rw [f190] at K;exact K
  refine Calls.mono K ?_
  rintro e w' ⟨rfl,n,os,rfl⟩
  refine ⟨rfl,⟨?_,fun u hu=>sv_one _ u hu⟩,grownBy_sorted _⟩
  have:=ownsRow_sorted (n:=n) (os:=os) (ss:=l.map (·.data.toList)) (ts:=srtM l) (by rw [srtM_len,List.length_map]) hb hg hn hm hs
  rw [← enc_sv]
  simp only [List.length_map,srtM_len] at this ⊢
  exact this
set_option maxRecDepth 100000 in
theorem Compact_own {w:World} {B:Nat} {v:Value} {m:List (List UInt8)} (h:Ow w 9 B v (sv (m.map toB))) (hl:m.length≤1000000):Calls Tryz.prog 57 #[v] w fun e w'=>∃ v',e=.returned v'∧Ow w' 9 B v' (sv ((Lib.compact m).map toB))∧w.grownBy w' v.ownBlock:=by
 rcases h.row.2 with ⟨h1,h2⟩ | ⟨g,cap,cur,hv,hb,hg,hn,hm,hs,ht⟩
 ·subst h1
  have:m=[]:=by rw [← List.length_eq_zero_iff];rw [sv_len,List.length_map] at h2;exact h2
  subst this
  refine Calls.mono (show Calls Tryz.prog 57 #[.slice none 0 0] w (fun e w'=>e=.returned (.slice none 0 0)∧w'=w) from by have K:=Any.slices_Compact_string_empty laysCompact none 0 w;rw [f194] at K;exact K) ?_
  rintro e w' ⟨rfl,rfl⟩
  exact ⟨_,rfl,by rw [show Lib.compact ([]:List (List UInt8))=[] from rfl];exact h,⟨rfl,rfl,rfl,Nat.le_refl _,fun _ _ _=>rfl⟩⟩
 ·have hl1:(sv (m.map toB)).length=m.length:=by rw [sv_len,List.length_map]
  rw [hl1] at hv hn ht
  have ho:v.ownBlock=some g:=by rw [hv];rfl
  rw [ho,hv]
  have hH:=holds_of_block (ss:=m) hg (by rw [enc_sv,← ht,Nat.mul_one])
  have hb2:m.length≤9223372036854775807:=by omega
  have K:Calls Tryz.prog 57 #[.slice (some ⟨g,0,none⟩) m.length cap] w fun e w'=>e=.returned (.slice (some ⟨g,0,none⟩) (Lib.compact m).length cap)∧∃ q,w'=putRow encStr (Sort.ahead w q) g 0 (Lib.compact m ++ List.replicate (m.length - (Lib.compact m).length) []).toArray:=by have K:=Any.slices_Compact_string laysCompact g 0 cap m w hH hb2 hn;rw [f194] at K;exact K
  refine Calls.mono K ?_
  rintro e w' ⟨rfl,q,rfl⟩
  refine ⟨_,rfl,⟨?_,fun u hu=>sv_one _ u hu⟩,?_⟩
  ·have hw:w.ownsRow B 9 1 (.slice (some ⟨g,0,none⟩) m.length cap) m.length (m.map encStr):=by
    have:=h.row
    rw [hv,hl1,← enc_sv] at this
    exact this
   have hc:=Lib.compact_length_le m
   have:=Lib.ownsRow_putRow (q:=q) (k:=(Lib.compact m).length) (ys:=Lib.compact m ++ List.replicate (m.length - (Lib.compact m).length) []) hw (by simp;omega) hc
   rw [List.take_left'] at this
   ·rw [← enc_sv,List.length_map];exact this
   ·rfl
  ·refine ⟨rfl,rfl,rfl,by simp [putRow,mapBlock,Sort.ahead],fun k hk hne=>?_⟩
   have:g≠k:=fun e=>hne (by rw [e])
   simp [putRow,mapBlock,Sort.ahead,Array.getElem?_modify,this]
theorem srtB_is (l:List ByteArray):(Lib.compact (srtM l)).map toB=srtN l:=rfl
end Go.Proofs.YteknljnjcoehoaaGreatDoor
