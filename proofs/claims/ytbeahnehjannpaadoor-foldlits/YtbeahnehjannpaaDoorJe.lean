/- Parts of the proof. -/
import Derived.Test.YtbeahnehjannpaaDoorJd
import Derived.Deep.CutBlock
namespace Go.Proofs.YtbeahnehjannpaaDoor
open Go.RowKit
set_option linter.unusedVariables false
set_option linter.unusedSimpArgs false
theorem B3v.sets {w:World} {b:Nat} {z0 z1 z2:Value} (h:B3v w b z0 z1 z2) (v0 v1 v2:Value):B3v (((w.setCell ⟨b,0,none⟩ v0).setCell ⟨b,1,none⟩ v1).setCell ⟨b,2,none⟩ v2) b v0 v1 v2:=by
 have a0:B3v (w.setCell ⟨b,0,none⟩ v0) b v0 z1 z2:=⟨cell_eq h.c0,(cell_ne (by omega)).trans h.c1,(cell_ne (by omega)).trans h.c2,fun o=>by simpa using h.fz o⟩
 have a1:B3v ((w.setCell ⟨b,0,none⟩ v0).setCell ⟨b,1,none⟩ v1) b v0 v1 z2:=⟨(cell_ne (by omega)).trans a0.c0,cell_eq a0.c1,(cell_ne (by omega)).trans a0.c2,fun o=>by simpa using a0.fz o⟩
 exact ⟨(cell_ne (by omega)).trans a1.c0,(cell_ne (by omega)).trans a1.c1,cell_eq a1.c2,fun o=>by simpa using a1.fz o⟩
theorem Below.put3v {a b:World} {q B:Nat} (h:Below B a b) (hq:B≤q) (v0 v1 v2:Value):Below B a (((b.setCell ⟨q,0,none⟩ v0).setCell ⟨q,1,none⟩ v1).setCell ⟨q,2,none⟩ v2) :=
 ((h.setCell (p:=⟨q,0,none⟩) hq _).setCell (p:=⟨q,1,none⟩) hq _).setCell (p:=⟨q,2,none⟩) hq _
def ops14:List ByteArray:=[⟨#[43]⟩,⟨#[45]⟩,⟨#[42]⟩,⟨#[47]⟩,⟨#[110,101,103]⟩,⟨#[61,61]⟩,⟨#[33,61]⟩,⟨#[60]⟩,⟨#[60,61]⟩,⟨#[62]⟩,⟨#[62,61]⟩,⟨#[110,111,116]⟩,⟨#[109,105,110]⟩,⟨#[109,97,120]⟩]
theorem number_any (op:ByteArray) (ho:op ∈ ops14) (k n j m:Int) (sl sm:Value) (w:World) (hn:BdN n) (hm:BdN m) (hz:¬ (op=(⟨#[47]⟩:ByteArray)∧m=0)):Calls Tryd.prog 51 #[.string op,vl k n sl,vl j m sm] w fun e w'=>e=.returned (.tuple #[.int .i64 (numF op k n j m).1,.bool (numF op k n j m).2])∧Below w.heap.size w w':=by
 simp only [ops14,List.mem_cons,List.not_mem_nil,or_false] at ho
 rcases ho with rfl | rfl | rfl | rfl | rfl | rfl | rfl | rfl | rfl | rfl | rfl | rfl | rfl | rfl
 ·exact numb_0 k n j m sl sm w hn hm hz
 ·exact numb_1 k n j m sl sm w hn hm hz
 ·exact numb_2 k n j m sl sm w hn hm hz
 ·exact numb_3 k n j m sl sm w hn hm hz
 ·exact numb_4 k n j m sl sm w hn hm hz
 ·exact numb_5 k n j m sl sm w hn hm hz
 ·exact numb_6 k n j m sl sm w hn hm hz
 ·exact numb_7 k n j m sl sm w hn hm hz
 ·exact numb_8 k n j m sl sm w hn hm hz
 ·exact numb_9 k n j m sl sm w hn hm hz
 ·exact numb_10 k n j m sl sm w hn hm hz
 ·exact numb_11 k n j m sl sm w hn hm hz
 ·exact numb_12 k n j m sl sm w hn hm hz
 ·exact numb_13 k n j m sl sm w hn hm hz
theorem ops_16 (op:ByteArray) (ho:op ∈ ops14):op ∈ ops16:=by
 simp only [ops14,List.mem_cons,List.not_mem_nil,or_false] at ho
 rcases ho with rfl | rfl | rfl | rfl | rfl | rfl | rfl | rfl | rfl | rfl | rfl | rfl | rfl | rfl <;> simp [ops16]
theorem eqB_eq {a b:ByteArray} (h:eqB a b=true):a=b:=by
 unfold eqB at h
 have h:a.data.toList=b.data.toList:=by simpa using h
 have:=Array.toList_inj.1 h
 cases a;cases b;simp_all
set_option maxRecDepth 100000 in
set_option maxHeartbeats 4000000 in
theorem op_any (op:ByteArray) (ho:op ∈ ops14) (k n j m:Int) (sl sm:Value) (w:World) (hT:TabU w) (hn:BdN n) (hm:BdN m):Calls Tryd.prog 28 #[.string op,vl k n sl,vl j m sm] w fun e w'=>e=.returned (.tuple #[vl (opF op k n j m).1 (opF op k n j m).2.1 (.slice none 0 0),.int .i64 (opF op k n j m).2.2])∧Below w.heap.size w w':=by
 have A1:=hid (show Below w.heap.size w (((w.alloc (.cells #[.int .i64 k,.int .i64 n,sl] 62)).alloc (.cells #[.int .i64 j,.int .i64 m,sm] 62)).alloc (.cells #[.int .i64 0,.int .i64 0,.slice none 0 0] 62)) from (((Below.refl _ _).alloc (Nat.le_refl _) _).alloc (by simp) _).alloc (by simp;omega) _)
 have s1:(w.alloc (.cells #[.int .i64 k,.int .i64 n,sl] 62)).heap.size=w.heap.size+1:=by simp
 have s2:((w.alloc (.cells #[.int .i64 k,.int .i64 n,sl] 62)).alloc (.cells #[.int .i64 j,.int .i64 m,sm] 62)).heap.size=w.heap.size+1+1:=by simp
 have X1:=hid (show B3v (((w.alloc (.cells #[.int .i64 k,.int .i64 n,sl] 62)).alloc (.cells #[.int .i64 j,.int .i64 m,sm] 62)).alloc (.cells #[.int .i64 0,.int .i64 0,.slice none 0 0] 62)) w.heap.size (.int .i64 k) (.int .i64 n) sl from ((B3v.new w 62 (.int .i64 k) (.int .i64 n) sl).next ((Below.refl _ _).alloc (Nat.le_refl _) _)).next ((Below.refl _ _).alloc (Nat.le_refl _) _))
 have X2:=hid (show B3v (((w.alloc (.cells #[.int .i64 k,.int .i64 n,sl] 62)).alloc (.cells #[.int .i64 j,.int .i64 m,sm] 62)).alloc (.cells #[.int .i64 0,.int .i64 0,.slice none 0 0] 62)) (w.heap.size+1) (.int .i64 j) (.int .i64 m) sm from by
  have:=(B3v.new (w.alloc (.cells #[.int .i64 k,.int .i64 n,sl] 62)) 62 (.int .i64 j) (.int .i64 m) sm).next ((Below.refl _ _).alloc (Nat.le_refl _) (.cells #[.int .i64 0,.int .i64 0,.slice none 0 0] 62))
  rw [s1] at this
  exact this)
 have X3:=hid (show B3v (((w.alloc (.cells #[.int .i64 k,.int .i64 n,sl] 62)).alloc (.cells #[.int .i64 j,.int .i64 m,sm] 62)).alloc (.cells #[.int .i64 0,.int .i64 0,.slice none 0 0] 62)) (w.heap.size+1+1) (.int .i64 0) (.int .i64 0) (.slice none 0 0) from by
  have:=B3v.new ((w.alloc (.cells #[.int .i64 k,.int .i64 n,sl] 62)).alloc (.cells #[.int .i64 j,.int .i64 m,sm] 62)) 62 (.int .i64 0) (.int .i64 0) (.slice none 0 0)
  rw [s2] at this
  exact this)
 clear s1 s2
 obtain ⟨D,hD⟩:∃ D,outF op k j=D:=⟨_,rfl⟩
 have DE:=hid hD
 obtain ⟨R,Z,hR⟩:∃ R Z,numF op k n j m=(R,Z):=⟨_,_,rfl⟩
 have RE:=hid hR
 have K1:=hid (fun W hW=>outcome_any op (ops_16 op ho) k j W hW)
 rw [hD] at K1
 have K2:=hid (fun W hz=>number_any op ho k n j m sl sm W hn hm hz)
 rw [hR] at K2
 have K3:=hid (fun W=>within_any D R W)
 have K4:=hid (fun W=>outside_any D W)
 obtain ⟨O,hO'⟩:∃ O,(if D=5 then (12:Int) else 10)=O:=⟨_,rfl⟩
 have hO:=hid hO'
 rw [hO'] at K4
 clear hO'
 have T1:=hid (hT.next A1.out)
 clear hD hR ho hn hm hT
 go_enter Tryd.func28,Tryd.ntmps28
 go_upto_region 1 with fail
 generalize World.alloc (World.alloc (World.alloc w _) _) _=w1 at *
 have hr:=hid (show w.heap.size≤w.heap.size+1+1 by omega)
 generalize w.heap.size+1+1=r at *
 generalize w.heap.size+1=r2 at *
 obtain ⟨c0,c1,c2,_⟩:=X1.out
 obtain ⟨d0,d1,d2,_⟩:=X2.out
 go_upto_region 2 with (go_at_call 50;with_reducible refine Calls.mono (K1.out _ T1.out) ?_;rintro e w2 ⟨rfl,b2⟩;have A2:=hid (nextB A1.out b2);have Y1:=hid (X1.out.next b2);have Y2:=hid (X2.out.next b2);have Y3:=hid (X3.out.next b2);clear b2)
 clear c0 c1 c2 d0 d1 d2 X1 X2 X3 A1 T1 K1
 by_cases q0:D=0
 ·have z0:=eqM _ _ q0
  have E:=hid (show opF op k n j m=(0,0,8) from by unfold opF;rw [DE.out,if_pos q0])
  clear q0
  have S:=hid (Y3.out.sets (.int .i64 0) (.int .i64 0) (.slice none 0 0))
  have BF:=hid (Below.put3v A2.out (q:=r) hr.out (.int .i64 0) (.int .i64 0) (.slice none 0 0))
  obtain ⟨y0,y1,y2,yz⟩:=Y3.out
  go_wp2_with fail
  clear y0 y1 y2 yz
  generalize World.setCell _ ⟨r,2,none⟩ _=wf at *
  obtain ⟨f0,f1,f2,_⟩:=S.out
  try simp only [Exit.inBlock,Exit.then]
  refine bodyPost_ret (v:=.tuple #[vl 0 0 (.slice none 0 0),.int .i64 8]) (by simp [results,Tryd.results28,go_sem,f0,f1,f2]) rfl ?_
  rw [E.out]
  exact ⟨rfl,BF.out⟩
 have z0:=beqM _ _ q0
 obtain ⟨c0,c1,c2,_⟩:=Y1.out
 obtain ⟨d0,d1,d2,_⟩:=Y2.out
 cases q1:(eqB op ⟨#[47]⟩ && (m==0)) with
 | true =>
  have q2:eqB op ⟨#[47]⟩=true∧m=0:=by simpa using q1
  have z1:(op.toList==[47])=true:=(eqL _ _).trans q2.1
  have z2:=eqM _ _ q2.2
  have E:=hid (show opF op k n j m=(0,0,11) from by unfold opF;rw [DE.out,if_neg q0,if_pos q1])
  clear q0 q1 q2
  have S:=hid (Y3.out.sets (.int .i64 0) (.int .i64 0) (.slice none 0 0))
  have BF:=hid (Below.put3v A2.out (q:=r) hr.out (.int .i64 0) (.int .i64 0) (.slice none 0 0))
  obtain ⟨y0,y1,y2,yz⟩:=Y3.out
  go_wp2_with fail
  clear y0 y1 y2 yz
  generalize World.setCell _ ⟨r,2,none⟩ _=wf at *
  obtain ⟨f0,f1,f2,_⟩:=S.out
  try simp only [Exit.inBlock,Exit.then]
  refine bodyPost_ret (v:=.tuple #[vl 0 0 (.slice none 0 0),.int .i64 11]) (by simp [results,Tryd.results28,go_sem,f0,f1,f2]) rfl ?_
  rw [E.out]
  exact ⟨rfl,BF.out⟩
 | false =>
  have hz:¬ (op=(⟨#[47]⟩:ByteArray)∧m=0):=fun h=>by rw [h.1,h.2] at q1;cases q1
  have E0:=hid (show opF op k n j m=if !(numF op k n j m).2 || !wthF (outF op k j) (numF op k n j m).1 then (0,0,if outF op k j=5 then 12 else 10) else (outF op k j,(numF op k n j m).1,0) from by unfold opF;rw [if_neg (by rw [DE.out];exact q0),if_neg (by rw [q1];simp)])
  rw [DE.out,RE.out,hO.out] at E0
  replace K2:=hid (fun W=>K2.out W hz)
  have H1:∃ c d,(op.toList==[47])=c∧(m==0)=d∧(c && d)=false:=⟨_,_,rfl,rfl,by rw [eqL];exact q1⟩
  clear q0 q1 hz DE RE
  obtain ⟨cz,dz,z1,z2,z3⟩:=H1
  have Q4:=hid z3
  clear z3
  obtain ⟨y0,y1,y2,yz⟩:=Y3.out
  have CUTX:True:=trivial
  cases cz with
  | false =>
   clear y0 y1 y2 yz Q4 CUTX
   go_upto_region 7 with (go_at_call 51;with_reducible refine Calls.mono (K2.out _) ?_;rintro e w3 ⟨rfl,b2⟩;have A3:=hid (nextB A2.out b2);have V3:=hid (Y3.out.next b2);clear b2)
   clear c0 c1 c2 d0 d1 d2 Y1 Y2 Y3 A2 K2
   cases Z with
   | false =>
    have E:=hid (E0.out.trans (show _=(0,0,O) from rfl))
    clear E0
    have S:=hid (V3.out.sets (.int .i64 0) (.int .i64 0) (.slice none 0 0))
    have BF:=hid (Below.put3v A3.out (q:=r) hr.out (.int .i64 0) (.int .i64 0) (.slice none 0 0))
    obtain ⟨y0,y1,y2,yz⟩:=V3.out
    go_wp2_with (go_at_call 53;with_reducible refine Calls.mono (K4.out _) ?_;rintro e w4 ⟨rfl,rfl⟩)
    clear y0 y1 y2 yz
    generalize World.setCell _ ⟨r,2,none⟩ _=wf at *
    obtain ⟨f0,f1,f2,_⟩:=S.out
    try simp only [Exit.inBlock,Exit.then]
    refine bodyPost_ret (v:=.tuple #[vl 0 0 (.slice none 0 0),.int .i64 O]) (by simp [results,Tryd.results28,go_sem,f0,f1,f2]) rfl ?_
    rw [E.out]
    exact ⟨rfl,BF.out⟩
   | true =>
    cases qw:wthF D R with
    | false =>
     have E:=hid (E0.out.trans (show _=(0,0,O) from by simp [qw]))
     rw [qw] at K3
     clear E0 qw
     have S:=hid (V3.out.sets (.int .i64 0) (.int .i64 0) (.slice none 0 0))
     have BF:=hid (Below.put3v A3.out (q:=r) hr.out (.int .i64 0) (.int .i64 0) (.slice none 0 0))
     obtain ⟨y0,y1,y2,yz⟩:=V3.out
     go_wp2_with (first | (go_at_call 52;with_reducible refine Calls.mono (K3.out _) ?_;rintro e w4 ⟨rfl,rfl⟩) | (go_at_call 53;with_reducible refine Calls.mono (K4.out _) ?_;rintro e w4 ⟨rfl,rfl⟩))
     clear y0 y1 y2 yz
     generalize World.setCell _ ⟨r,2,none⟩ _=wf at *
     obtain ⟨f0,f1,f2,_⟩:=S.out
     try simp only [Exit.inBlock,Exit.then]
     refine bodyPost_ret (v:=.tuple #[vl 0 0 (.slice none 0 0),.int .i64 O]) (by simp [results,Tryd.results28,go_sem,f0,f1,f2]) rfl ?_
     rw [E.out]
     exact ⟨rfl,BF.out⟩
    | true =>
     have E:=hid (E0.out.trans (show _=(D,R,0) from by simp [qw]))
     rw [qw] at K3
     clear E0 qw
     have S:=hid (V3.out.sets (.int .i64 D) (.int .i64 R) (.slice none 0 0))
     have BF:=hid (Below.put3v A3.out (q:=r) hr.out (.int .i64 D) (.int .i64 R) (.slice none 0 0))
     obtain ⟨y0,y1,y2,yz⟩:=V3.out
     go_wp2_with (go_at_call 52;with_reducible refine Calls.mono (K3.out _) ?_;rintro e w4 ⟨rfl,rfl⟩)
     clear y0 y1 y2 yz
     generalize World.setCell _ ⟨r,2,none⟩ _=wf at *
     obtain ⟨f0,f1,f2,_⟩:=S.out
     try simp only [Exit.inBlock,Exit.then]
     refine bodyPost_ret (v:=.tuple #[vl D R (.slice none 0 0),.int .i64 0]) (by simp [results,Tryd.results28,go_sem,f0,f1,f2]) rfl ?_
     rw [E.out]
     exact ⟨rfl,BF.out⟩
  | true =>
   have:dz=false:=Q4.out
   subst this
   clear y0 y1 y2 yz Q4 CUTX
   go_upto_region 7 with (go_at_call 51;with_reducible refine Calls.mono (K2.out _) ?_;rintro e w3 ⟨rfl,b2⟩;have A3:=hid (nextB A2.out b2);have V3:=hid (Y3.out.next b2);clear b2)
   clear c0 c1 c2 d0 d1 d2 Y1 Y2 Y3 A2 K2
   cases Z with
   | false =>
    have E:=hid (E0.out.trans (show _=(0,0,O) from rfl))
    clear E0
    have S:=hid (V3.out.sets (.int .i64 0) (.int .i64 0) (.slice none 0 0))
    have BF:=hid (Below.put3v A3.out (q:=r) hr.out (.int .i64 0) (.int .i64 0) (.slice none 0 0))
    obtain ⟨y0,y1,y2,yz⟩:=V3.out
    go_wp2_with (go_at_call 53;with_reducible refine Calls.mono (K4.out _) ?_;rintro e w4 ⟨rfl,rfl⟩)
    clear y0 y1 y2 yz
    generalize World.setCell _ ⟨r,2,none⟩ _=wf at *
    obtain ⟨f0,f1,f2,_⟩:=S.out
    try simp only [Exit.inBlock,Exit.then]
    refine bodyPost_ret (v:=.tuple #[vl 0 0 (.slice none 0 0),.int .i64 O]) (by simp [results,Tryd.results28,go_sem,f0,f1,f2]) rfl ?_
    rw [E.out]
    exact ⟨rfl,BF.out⟩
   | true =>
    cases qw:wthF D R with
    | false =>
     have E:=hid (E0.out.trans (show _=(0,0,O) from by simp [qw]))
     rw [qw] at K3
     clear E0 qw
     have S:=hid (V3.out.sets (.int .i64 0) (.int .i64 0) (.slice none 0 0))
     have BF:=hid (Below.put3v A3.out (q:=r) hr.out (.int .i64 0) (.int .i64 0) (.slice none 0 0))
     obtain ⟨y0,y1,y2,yz⟩:=V3.out
     go_wp2_with (first | (go_at_call 52;with_reducible refine Calls.mono (K3.out _) ?_;rintro e w4 ⟨rfl,rfl⟩) | (go_at_call 53;with_reducible refine Calls.mono (K4.out _) ?_;rintro e w4 ⟨rfl,rfl⟩))
     clear y0 y1 y2 yz
     generalize World.setCell _ ⟨r,2,none⟩ _=wf at *
     obtain ⟨f0,f1,f2,_⟩:=S.out
     try simp only [Exit.inBlock,Exit.then]
     refine bodyPost_ret (v:=.tuple #[vl 0 0 (.slice none 0 0),.int .i64 O]) (by simp [results,Tryd.results28,go_sem,f0,f1,f2]) rfl ?_
     rw [E.out]
     exact ⟨rfl,BF.out⟩
    | true =>
     have E:=hid (E0.out.trans (show _=(D,R,0) from by simp [qw]))
     rw [qw] at K3
     clear E0 qw
     have S:=hid (V3.out.sets (.int .i64 D) (.int .i64 R) (.slice none 0 0))
     have BF:=hid (Below.put3v A3.out (q:=r) hr.out (.int .i64 D) (.int .i64 R) (.slice none 0 0))
     obtain ⟨y0,y1,y2,yz⟩:=V3.out
     go_wp2_with (go_at_call 52;with_reducible refine Calls.mono (K3.out _) ?_;rintro e w4 ⟨rfl,rfl⟩)
     clear y0 y1 y2 yz
     generalize World.setCell _ ⟨r,2,none⟩ _=wf at *
     obtain ⟨f0,f1,f2,_⟩:=S.out
     try simp only [Exit.inBlock,Exit.then]
     refine bodyPost_ret (v:=.tuple #[vl D R (.slice none 0 0),.int .i64 0]) (by simp [results,Tryd.results28,go_sem,f0,f1,f2]) rfl ?_
     rw [E.out]
     exact ⟨rfl,BF.out⟩
end Go.Proofs.YtbeahnehjannpaaDoor
