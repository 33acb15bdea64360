/- Parts of the proof. -/
import Derived.Test.YteknljnjcoehoaaGreatDoorPl
import Derived.Deep.CutRange
import Derived.Deep.QuietTactic
namespace Go.Proofs.YteknljnjcoehoaaGreatDoor
open Go.RowKit
set_option linter.unusedVariables false
set_option linter.unusedSimpArgs false
def stpN (op:ByteArray) (l:List Nat):Nat :=
 min (if eqB op ⟨#[105,102]⟩ then 3+l.getD 0 0+max (l.getD 1 0) (l.getD 2 0) else if eqB op ⟨#[115,117,109]⟩ then 4+l.getD 0 0+16*(4+l.getD 1 0) else 1+l.sum) 1099511627777
mutual
def stpT:Tr→Nat
 | .nd op nm kind n a kids=>stpN op (stpL kids)
def stpL:List Tr→List Nat
 | []=>[]
 | t :: ts=>stpT t :: stpL ts
end
theorem stpL_map:∀ ts:List Tr,stpL ts=ts.map stpT
 | []=>by rw [stpL];rfl
 | t :: ts=>by rw [stpL,stpL_map ts];rfl
theorem stp_le (t:Tr):stpT t≤1099511627777:=by
 obtain ⟨op,nm,kind,n,a,kids⟩:=t
 rw [stpT]
 exact Nat.min_le_right _ _
theorem makeI (n : Nat) (hn : n ≤ 3) (w : World) : ∃ o, (Instr.makeSlice 51 (.int .i64 (n : Nat)) (.int .i64 (n : Nat))).run Tryz.prog w = .ok (.slice (some ⟨w.heap.size, 0, none⟩) n n) (w.alloc o) ∧ Kw (w.alloc o) w.heap.size n [] := by
  match n, hn with
  | 0, _ => exact ⟨.cells #[] 2, by kernel_rfl, ⟨fun j hj => by omega, fun j => by simp, by simp⟩⟩
  | 1, _ => exact ⟨.cells #[.int .i64 0] 2, by kernel_rfl, ⟨fun j hj => by
      match j, hj with
      | 0, _ => simp, fun j => by simp, by simp⟩⟩
  | 2, _ => exact ⟨.cells #[.int .i64 0, .int .i64 0] 2, by kernel_rfl, ⟨fun j hj => by
      match j, hj with
      | 0, _ => simp
      | 1, _ => simp, fun j => by simp, by simp⟩⟩
  | 3, _ => exact ⟨.cells #[.int .i64 0, .int .i64 0, .int .i64 0] 2, by kernel_rfl, ⟨fun j hj => by
      match j, hj with
      | 0, _ => simp
      | 1, _ => simp
      | 2, _ => simp, fun j => by simp, by simp⟩⟩
def StC (S:Nat→Prop) (t:Tr):Prop :=
 ∀ (w:World) (v:Value),Nd w S v t.kids→Calls Tryz.prog 50 #[.agg #[.string t.op,.string t.name,.int .i64 (t.kind:Nat),.int .i64 t.n,.int .i64 (t.pl:Nat),v]] w fun e w'=>e=.returned (.int .i64 (stpT t:Nat))∧Below w.heap.size w w'
structure StI (w wr:World) (S:Nat→Prop) (q r:Nat) (op nm:ByteArray) (kd:Nat) (n:Int) (pl:Nat) (sv:Value) (ts:List Tr) (i:Nat):Prop where
 nd:Nd wr (fun g=>S g∧g<q) sv ts
 bx:B6 wr q (.string op) (.string nm) (.int .i64 (kd:Nat)) (.int .i64 n) (.int .i64 (pl:Nat)) sv
 kw:Kw wr r ts.length ((ts.take i).map fun k=>(stpT k:Int))
 bl:Below w.heap.size w wr
theorem sum_take {l:List Nat} {i x:Nat} (h:l[i]?=some x):(l.take (i+1)).sum=(l.take i).sum+x:=by
 obtain ⟨h1,h2⟩:=List.getElem?_eq_some_iff.1 h
 rw [← h2,← List.take_append_getElem h1,List.sum_append]
 simp
set_option maxRecDepth 100000 in
set_option maxHeartbeats 8000000 in
theorem steps_step (S:Nat→Prop) (op nm:ByteArray) (kd:Nat) (n:Int) (pl:Nat) (ts:List Tr) (hl:ts.length≤3) (hif:eqB op ⟨#[105,102]⟩=true→ts.length=3) (hsm:eqB op ⟨#[115,117,109]⟩=true→ts.length=2)
  (hk:∀ k,k ∈ ts→StC S k):StC S (.nd op nm kd n pl ts):=by
 intro w v hd
 dsimp only [Tr.op,Tr.name,Tr.kind,Tr.n,Tr.pl,Tr.kids] at hd ⊢
 obtain ⟨sa,sc,rfl⟩:=hd.lenY
 have B1:=hid (show Below w.heap.size w (w.alloc (.cells #[.string op,.string nm,.int .i64 (kd:Nat),.int .i64 n,.int .i64 (pl:Nat),.slice sa ts.length sc] 26)) from (Below.refl _ _).alloc (Nat.le_refl _) _)
 have X1:=hid (B6.new w 26 (.string op) (.string nm) (.int .i64 (kd:Nat)) (.int .i64 n) (.int .i64 (pl:Nat)) (.slice sa ts.length sc))
 have N1:=hid (hd.keep (S':=fun g=>S g∧g<w.heap.size) fun g s l=>⟨⟨s,l⟩,B1.out.block g l⟩)
 have HK:=hid hk
 have HL:=hid hl
 have HI:=hid hif
 have HS:=hid hsm
 have KL9:(ts.length:Int)≤3:=by omega
 obtain ⟨R,hR⟩:∃ R,stpT (.nd op nm kd n pl ts)=R:=⟨_,rfl⟩
 have RH:=hid (show stpN op (ts.map stpT)=R from by rw [← hR,stpT,stpL_map])
 rw [hR]
 clear hd hk hl hif hsm hR
 go_enter Tryz.func50,Tryz.ntmps50
 go_upto_region 1 with fail
 generalize World.alloc w _=w1 at *
 obtain ⟨o,mk,kw1⟩:=makeI ts.length HL.out w1
 have BA:=hid (show Below w1.heap.size w1 (w1.alloc o) from (Below.refl _ _).alloc (Nat.le_refl _) _)
 have KW:=hid kw1
 have QR:=hid X1.out.lt
 have e5:=X1.out.c5
 clear kw1
 go_upto_region 2 with fail
 clear e5 mk
 generalize World.alloc w1 _=w2 at *
 generalize w1.heap.size=r at *
 have e5:=(X1.out.keep (BA.out.block _ QR.out)).c5
 have I0:=hid (show StI w w2 S w.heap.size r op nm kd n pl (.slice sa ts.length sc) ts 0 from
  ⟨N1.out.keep (fun g a b=>⟨a,BA.out.block g (by have:=a.2;have:=QR.out;omega)⟩),X1.out.keep (BA.out.block _ QR.out),KW.out,(B1.out.trans (BA.out.mono (by have:=QR.out;omega)))⟩)
 clear N1 X1 KW B1
 go_upto_region 3 with fail
 clear e5
 go_loopg [16,4,5] (ts.length) (fun g iv jv kv wr=>∃ i:Nat,i≤ts.length∧g=ts.length - i∧iv=.int .i64 (i:Nat)∧Hid (StI w wr S w.heap.size r op nm kd n pl (.slice sa ts.length sc) ts i))
 case atStart=>exact ⟨0,Nat.zero_le _,rfl,rfl,I0.out⟩
 case round =>
  obtain ⟨i,hi,rfl,rfl,II⟩:=hrel
  by_cases qi:i<ts.length
  ·have qi':(i:Int)<(ts.length:Int):=by omega
   obtain ⟨k,hk⟩:∃ k,ts[i]?=some k:=⟨_,List.getElem?_eq_getElem qi⟩
   obtain ⟨g,c,s3,ea,nc,nk⟩:=II.out.nd.atY i k hk
   obtain ⟨ka,km,kc,rfl⟩:=nk.slice
   injection ea with ea _ ec
   subst ea ec
   have TK:=hid (show ((ts.take (i+1)).map fun k=>(stpT k:Int))=((ts.take i).map fun k=>(stpT k:Int)) ++ [(stpT k:Int)] from by
    obtain ⟨h1,h2⟩:=List.getElem?_eq_some_iff.1 hk
    rw [← h2,show ts.take (i+1)=ts.take i ++ [ts[i]] from (List.take_append_getElem h1).symm,List.map_append];rfl)
   have LT:=hid (show ((ts.take i).map fun k=>(stpT k:Int)).length=i from by rw [List.length_map,List.length_take];omega)
   obtain ⟨n0,n1,n2,n3,n4,n5⟩:=nc
   have B3:=hid (show Below wr.heap.size wr (wr.alloc (.cells #[.string k.op,.string k.name,.int .i64 (k.kind:Nat),.int .i64 k.n,.int .i64 (k.pl:Nat),.slice ka km kc] 26)) from (Below.refl _ _).alloc (Nat.le_refl _) _)
   have X3:=hid (B6.new wr 26 (.string k.op) (.string k.name) (.int .i64 (k.kind:Nat)) (.int .i64 k.n) (.int .i64 (k.pl:Nat)) (.slice ka km kc))
   have N3:=hid (nk.keep (S':=fun g=>S g∧g<w.heap.size) fun g s l=>⟨s,B3.out.block g l⟩)
   have M3:=hid (II.out.nd.gwY B3.out)
   have Y3:=hid (II.out.bx.next B3.out)
   have W3:=hid (II.out.kw.keep B3.out.size (B3.out.block r II.out.kw.lt))
   have A3:=hid (nextB II.out.bl B3.out)
   have KK:=hid (HK.out k (List.mem_of_getElem? hk))
   clear nk hk II
   go_upto_region 5 with fail
   clear n0 n1 n2 n3 n4 n5
   generalize World.alloc wr _=w3 at *
   generalize wr.heap.size=xb at *
   have KC:=hid (KK.out w3 _ (N3.out.keep (S':=S) fun g s l=>⟨s.1,rfl⟩))
   obtain ⟨x0,x1,x2,x3,x4,x5,xz⟩:=X3.out
   go_upto_region 6 with (go_at_call 50;(with_reducible refine Calls.mono KC.out ?_);rintro e w4 ⟨rfl,b4⟩;have B4:=hid b4;clear b4;have zc:=(W3.out.keep B4.out.size (B4.out.block r W3.out.lt)).at_ i qi;have zf:=(W3.out.keep B4.out.size (B4.out.block r W3.out.lt)).fz i)
   clear x0 x1 x2 x3 x4 x5 xz zc zf
   have W5:=hid (show Kw (w4.setCell ⟨r,i,none⟩ (.int .i64 (stpT k:Nat))) r ts.length (((ts.take i).map fun k=>(stpT k:Int)) ++ [(stpT k:Int)]) from by have:=(W3.out.keep B4.out.size (B4.out.block r W3.out.lt)).set (by rw [LT.out];exact qi) (stpT k:Int);rw [LT.out] at this;exact this)
   have Y5:=hid ((Y3.out.next B4.out).put (q:=r) (i:=i) (by have:=QR.out;omega) (.int .i64 (stpT k:Nat)))
   have M5:=hid ((M3.out.gwY B4.out).keep (w':=w4.setCell ⟨r,i,none⟩ (.int .i64 (stpT k:Nat))) (S':=fun g=>S g∧g<w.heap.size) fun g s l=>⟨s,Below.heap_setCell w4 ⟨r,i,none⟩ _ g (fun e=>by have:=QR.out;have e:g=r:=e;have:=s.2;omega)⟩)
   have A5:=hid ((nextB A3.out B4.out).setCell (p:=⟨r,i,none⟩) (by have:=QR.out;show w.heap.size≤r;omega) (.int .i64 (stpT k:Nat)))
   clear W3 Y3 M3 A3 X3 N3 KC B4
   generalize World.setCell w4 ⟨r,i,none⟩ _=w5 at *
   go_wp2_with fail
   go_roundg (ts.length - (i+1))
   case measure=>omega
   case rel=>exact ⟨i+1,by omega,rfl,by rw [Int.natCast_add];rfl,M5.out,Y5.out,by rw [TK.out];exact W5.out,A5.out⟩
  ·have qi':¬ (i:Int)<(ts.length:Int):=by omega
   have TK:=hid (show ts.take i=ts from List.take_of_length_le (by omega))
   have KF:=hid (show Kw wr r ts.length (ts.map fun k=>(stpT k:Int)) from by have:=II.out.kw;rw [TK.out] at this;exact this)
   have BX:=hid II.out.bx
   have BL:=hid II.out.bl
   have CE:=hid (show ∀ j k,ts[j]?=some k→wr.cell? ⟨r,j,none⟩=some (.int .i64 (stpT k:Nat)) from fun j k hj=>by
    rw [KF.out.at_ j (lt_of_some hj),List.getD_eq_getElem?_getD,List.getElem?_map,hj];rfl)
   have x0:=BX.out.c0
   clear II TK
   cases z1:eqB op ⟨#[105,102]⟩ with
   | true =>
    have y1:(op.toList==[105,102])=true:=(eqL _ _).trans z1
    have T3:=HI.out z1
    obtain ⟨ta,tb,tc,ets⟩:∃ ta tb tc,ts=[ta,tb,tc]:=by
     match ts,T3 with
     | [ta,tb,tc],_=>exact ⟨_,_,_,rfl⟩
    have qe:ts≠[]:=by rw [ets];simp
    have q0:(0:Int)<(ts.length:Int):=by omega
    have q1:(1:Int)<(ts.length:Int):=by omega
    have q2:(2:Int)<(ts.length:Int):=by omega
    have c0:=CE.out 0 ta (by rw [ets];rfl)
    have c1:=CE.out 1 tb (by rw [ets];rfl)
    have c2:=CE.out 2 tc (by rw [ets];rfl)
    have RR:=hid (show min (3+stpT ta+max (stpT tb) (stpT tc)) 1099511627777=R from by rw [← RH.out,ets];unfold stpN;rw [z1];rfl)
    have la:=stp_le ta
    have lb:=stp_le tb
    have lc:=stp_le tc
    clear ets T3 RH CE z1
    generalize stpT ta=a at *
    generalize stpT tb=b at *
    generalize stpT tc=c at *
    have ia:(a:Int)≤1099511627777:=by omega
    have ib:(b:Int)≤1099511627777:=by omega
    have ic:(c:Int)≤1099511627777:=by omega
    go_upto_region 16 with fail
    have iA:(0:Int)≤(a:Int):=by omega
    have w1':IntKind.i64.wrap (3+(a:Int))=3+(a:Int):=by go_arith
    have w2':IntKind.i64.wrap (3+(a:Int)+max (b:Int) (c:Int))=3+(a:Int)+max (b:Int) (c:Int):=by
     have:max (b:Int) (c:Int)≤1099511627777:=by omega
     have:0≤max (b:Int) (c:Int):=by omega
     go_arith
    have FV:=hid (show min (3+(a:Int)+max (b:Int) (c:Int)) 1099511627777=(R:Int) from by rw [← RR.out];omega)
    clear la lb lc
    refine wp_region_held_drew (S:=fun W=>Below wr.heap.size wr W) (by kernel_rfl) (Below.refl _ _).drew (fun hHeld=>?_)
    refine tk 0 (.slice (some ⟨r,0,none⟩) ts.length ts.length) 41 rfl rfl rfl (by kernel_rfl) (fun _ _ _ h=>h) (by rfl) hHeld ?_ ?_
    ·(intro W hW;(try dsimp only at hW);go_simp)
    try simp only [Act.put,List.setIfInBounds_toArray,List.set_cons_zero,List.set_cons_succ]
    refine tk 1 (.pointer (some ⟨r,0,none⟩)) 42 rfl rfl rfl (by kernel_rfl) (fun _ _ _ h=>h) (by rfl) hHeld ?_ ?_
    ·(intro W hW;(try dsimp only at hW);go_simp)
    try simp only [Act.put,List.setIfInBounds_toArray,List.set_cons_zero,List.set_cons_succ]
    refine tk 2 (.int .i64 (a:Nat)) 43 rfl rfl rfl (by kernel_rfl) (fun _ _ _ h=>h) (by rfl) hHeld ?_ ?_
    ·(intro W hW;(try dsimp only at hW);have c0:=celB hW c0;go_simp)
    try simp only [Act.put,List.setIfInBounds_toArray,List.set_cons_zero,List.set_cons_succ]
    refine tk 3 (.int .i64 (3+(a:Int))) 44 rfl rfl rfl (by kernel_rfl) (fun _ _ _ h=>h) (by rfl) hHeld ?_ ?_
    ·(intro W hW;(try dsimp only at hW);go_simp)
    try simp only [Act.put,List.setIfInBounds_toArray,List.set_cons_zero,List.set_cons_succ]
    refine tk 4 (.slice (some ⟨r,0,none⟩) ts.length ts.length) 45 rfl rfl rfl (by kernel_rfl) (fun _ _ _ h=>h) (by rfl) hHeld ?_ ?_
    ·(intro W hW;(try dsimp only at hW);go_simp)
    try simp only [Act.put,List.setIfInBounds_toArray,List.set_cons_zero,List.set_cons_succ]
    refine tk 5 (.pointer (some ⟨r,1,none⟩)) 46 rfl rfl rfl (by kernel_rfl) (fun _ _ _ h=>h) (by rfl) hHeld ?_ ?_
    ·(intro W hW;(try dsimp only at hW);go_simp)
    try simp only [Act.put,List.setIfInBounds_toArray,List.set_cons_zero,List.set_cons_succ]
    refine tk 6 (.int .i64 (b:Nat)) 47 rfl rfl rfl (by kernel_rfl) (fun _ _ _ h=>h) (by rfl) hHeld ?_ ?_
    ·(intro W hW;(try dsimp only at hW);have c1:=celB hW c1;go_simp)
    try simp only [Act.put,List.setIfInBounds_toArray,List.set_cons_zero,List.set_cons_succ]
    refine tk 7 (.slice (some ⟨r,0,none⟩) ts.length ts.length) 48 rfl rfl rfl (by kernel_rfl) (fun _ _ _ h=>h) (by rfl) hHeld ?_ ?_
    ·(intro W hW;(try dsimp only at hW);go_simp)
    try simp only [Act.put,List.setIfInBounds_toArray,List.set_cons_zero,List.set_cons_succ]
    refine tk 8 (.pointer (some ⟨r,2,none⟩)) 49 rfl rfl rfl (by kernel_rfl) (fun _ _ _ h=>h) (by rfl) hHeld ?_ ?_
    ·(intro W hW;(try dsimp only at hW);go_simp)
    try simp only [Act.put,List.setIfInBounds_toArray,List.set_cons_zero,List.set_cons_succ]
    refine tk 9 (.int .i64 (c:Nat)) 50 rfl rfl rfl (by kernel_rfl) (fun _ _ _ h=>h) (by rfl) hHeld ?_ ?_
    ·(intro W hW;(try dsimp only at hW);have c2:=celB hW c2;go_simp)
    try simp only [Act.put,List.setIfInBounds_toArray,List.set_cons_zero,List.set_cons_succ]
    refine tk 10 (.int .i64 (max (b:Int) (c:Int))) 51 rfl rfl rfl (by kernel_rfl) (fun _ _ _ h=>h) (by rfl) hHeld ?_ ?_
    ·(intro W hW;(try dsimp only at hW);go_simp)
    try simp only [Act.put,List.setIfInBounds_toArray,List.set_cons_zero,List.set_cons_succ]
    refine tk 11 (.int .i64 (3+(a:Int)+max (b:Int) (c:Int))) 52 rfl rfl rfl (by kernel_rfl) (fun _ _ _ h=>h) (by rfl) hHeld ?_ ?_
    ·(intro W hW;(try dsimp only at hW);go_simp)
    try simp only [Act.put,List.setIfInBounds_toArray,List.set_cons_zero,List.set_cons_succ]
    refine tk 12 (.int .i64 (3+(a:Int)+max (b:Int) (c:Int))) 6 rfl rfl rfl (by kernel_rfl) (fun _ _ _ h=>h) (by rfl) hHeld ?_ ?_
    ·(intro W hW;(try dsimp only at hW);go_simp)
    try simp only [Act.put,List.setIfInBounds_toArray,List.set_cons_zero,List.set_cons_succ]
    have BD:=hid (show Below wr.heap.size wr wr.drew from (Below.refl _ _).drew)
    generalize wr.drew=wz at *
    refine wpAnyH_done (by kernel_rfl) ?_ _
    go_wp2_with fail
    go_returns
    exact ⟨by rw [← FV.out];rfl,nextB BL.out BD.out⟩
   | false =>
    have y1:(op.toList==[105,102])=false:=(eqL _ _).trans z1
    cases z2:eqB op ⟨#[115,117,109]⟩ with
    | true =>
     have y2:(op.toList==[115,117,109])=true:=(eqL _ _).trans z2
     have T3:=HS.out z2
     obtain ⟨ta,tb,ets⟩:∃ ta tb,ts=[ta,tb]:=by
      match ts,T3 with
      | [ta,tb],_=>exact ⟨_,_,rfl⟩
     have qe:ts≠[]:=by rw [ets];simp
     have q0:(0:Int)<(ts.length:Int):=by omega
     have q1:(1:Int)<(ts.length:Int):=by omega
     have c0:=CE.out 0 ta (by rw [ets];rfl)
     have c1:=CE.out 1 tb (by rw [ets];rfl)
     have RR:=hid (show min (4+stpT ta+16*(4+stpT tb)) 1099511627777=R from by rw [← RH.out,ets];unfold stpN;rw [z1,z2];rfl)
     have la:=stp_le ta
     have lb:=stp_le tb
     clear ets T3 RH CE z1 z2
     generalize stpT ta=a at *
     generalize stpT tb=b at *
     have ia:(a:Int)≤1099511627777:=by omega
     have ib:(b:Int)≤1099511627777:=by omega
     have iA:(0:Int)≤(a:Int):=by omega
     have iB:(0:Int)≤(b:Int):=by omega
     have w1':IntKind.i64.wrap (4+(a:Int))=4+(a:Int):=by go_arith
     have w2':IntKind.i64.wrap (4+(b:Int))=4+(b:Int):=by go_arith
     have w3':IntKind.i64.wrap (16*(4+(b:Int)))=16*(4+(b:Int)):=by go_arith
     have w4':IntKind.i64.wrap (4+(a:Int)+16*(4+(b:Int)))=4+(a:Int)+16*(4+(b:Int)):=by go_arith
     have FV:=hid (show min (4+(a:Int)+16*(4+(b:Int))) 1099511627777=(R:Int) from by rw [← RR.out];omega)
     clear la lb
     go_upto_region 18 with fail
     go_quiet (fail)
     go_wp2_with fail
     go_returns
     exact ⟨by rw [← FV.out];rfl,by first | exact BL.out | exact nextB BL.out (drewN_below _ _)⟩
    | false =>
     have y2:(op.toList==[115,117,109])=false:=(eqL _ _).trans z2
     have RR:=hid (show min (1+(ts.map stpT).sum) 1099511627777=R from by rw [← RH.out];unfold stpN;rw [z1,z2];rfl)
     have SL:=hid (show ∀ j,((ts.map stpT).take j).sum≤3298534883331 from fun j=>by
      have h:∀ l:List Nat,(∀ x ∈ l,x≤1099511627777)→l.sum≤l.length*1099511627777:=by
       intro l
       induction l with
       | nil=>intro _;simp
       | cons x l ih=>intro hx;rw [List.sum_cons,List.length_cons];have:=hx x (by simp);have:=ih (fun y hy=>hx y (by simp [hy]));omega
      have:=h ((ts.map stpT).take j) (fun x hx=>by
       obtain ⟨y,_,rfl⟩:=List.mem_map.1 (List.mem_of_mem_take hx)
       exact stp_le y)
      have l3:((ts.map stpT).take j).length≤3:=by rw [List.length_take,List.length_map];have:=HL.out;omega
      omega)
     clear z1 z2 RH
     go_upto_region 11 with fail
     go_loopg [31,6,8] (ts.length) (fun g iv sv jv wx=>∃ j:Nat,j≤ts.length∧g=ts.length - j∧iv=.int .i64 (j:Nat)∧sv=.int .i64 ((1+((ts.map stpT).take j).sum:Nat):Int)∧Hid (wr=wx))
     case atStart=>exact ⟨0,Nat.zero_le _,rfl,rfl,rfl,rfl⟩
     case round =>
      obtain ⟨j,hj,rfl,rfl,rfl,EW⟩:=hrel
      obtain rfl:=EW.out
      by_cases qj:j<ts.length
      ·have qj':(j:Int)<(ts.length:Int):=by omega
       obtain ⟨k,hk⟩:∃ k,ts[j]?=some k:=⟨_,List.getElem?_eq_getElem qj⟩
       have cc:=CE.out j k hk
       have ST:=hid (show ((ts.map stpT).take (j+1)).sum=((ts.map stpT).take j).sum+stpT k from sum_take (by rw [List.getElem?_map,hk];rfl))
       have s1:=SL.out j
       have s2:=stp_le k
       clear hk
       generalize ((ts.map stpT).take j).sum=sm at *
       generalize stpT k=x at *
       have w1':IntKind.i64.wrap (((1+sm:Nat):Int)+(x:Int))=((1+sm:Nat):Int)+(x:Int):=by go_arith
       go_wp2_with fail
       go_roundg (ts.length - (j+1))
       case measure=>omega
       case rel=>exact ⟨j+1,by omega,rfl,by rw [Int.natCast_add];rfl,by rw [ST.out];congr 1;omega,rfl⟩
      ·have qj':¬ (j:Int)<(ts.length:Int):=by omega
       have TE:=hid (show (ts.map stpT).take j=ts.map stpT from List.take_of_length_le (by rw [List.length_map];omega))
       rw [TE.out]
       generalize (ts.map stpT).sum=sm at *
       have FV:=hid (show min (1+(sm:Int)) 1099511627777=(R:Int) from by rw [← RR.out];omega)
       go_wp2_with fail
       go_returns
       exact ⟨by rw [← FV.out];rfl,BL.out⟩
end Go.Proofs.YteknljnjcoehoaaGreatDoor
