/- Parts of the proof. -/
import Derived.Test.YtonmdlhlkacppaaDoorKa
import Derived.BigQuiet
import Derived.Deep.RegionHeld3
namespace Go.Proofs.YtonmdlhlkacppaaDoor
open Go.RowKit
set_option linter.unusedVariables false
set_option linter.unusedSimpArgs false
theorem nz3 {ks:List Tr} {loc:List ByteArray} {nm:ByteArray} {ts:List Tr} {a b c:Int} (h:chkL ks [] loc false nm true ts=.inl [a,b,c]):b≠0:=by
 match ts,h with
 | [],h=>rw [chkL] at h;cases h
 | x :: ts,h =>
  rw [chkL] at h
  simp only [Bool.false_and,Bool.false_eq_true,if_false] at h
  split at h
  ·cases h
  ·cases hq:chkL ks [] loc false nm false ts with
   | inr f=>rw [hq] at h;cases h
   | inl l2 =>
    rw [hq] at h
    simp only [Sum.inl.injEq,List.cons.injEq] at h
    obtain ⟨_,rfl⟩:=h
    match ts,hq with
    | [],hq=>rw [chkL] at hq;cases hq
    | y :: ts,hq =>
     rw [chkL] at hq
     simp only [Bool.false_and,Bool.false_eq_true,if_false] at hq
     split at hq
     ·cases hq
     ·rename_i q
      cases hr:chkL ks [] loc false nm false ts with
      | inr f=>rw [hr] at hq;cases hq
      | inl l3 =>
       rw [hr] at hq
       simp only [Sum.inl.injEq,List.cons.injEq] at hq
       rw [← hq.1]
       exact q
set_option maxRecDepth 100000 in
set_option maxHeartbeats 8000000 in
theorem of_not (p:Nat) (t:Tr) (sl:Value) (ls:List ByteArray) (hls:ls.length≤100) (nm:ByteArray) (kd:Nat) (n:Int) (pl:Nat) (ts:List Tr) (hl:ts.length=1) (hk:∀ (i:Nat) (k:Tr),ts[i]?=some k→OfC p t sl ls k):OfC p t sl ls (.nd ⟨#[110,111,116]⟩ nm kd n pl ts):=by
 intro S S2 w la lc ka kc v hS hS2 h hd
 unfold OfP
 simp only [tr_op9,tr_name9,tr_kind9,tr_n9,tr_pl9,tr_kids9] at hd ⊢
 obtain ⟨sa,sc,rfl⟩:=hd.lenY
 have B1:=hid (show Below w.heap.size w (w.alloc (.cells #[.string ⟨#[110,111,116]⟩,.string nm,.int .i64 (kd:Nat),.int .i64 n,.int .i64 (pl:Nat),.slice sa ts.length sc] 29)) from (Below.refl _ _).alloc (Nat.le_refl _) _)
 have X1:=hid (B6.new w 29 (.string ⟨#[110,111,116]⟩) (.string nm) (.int .i64 (kd:Nat)) (.int .i64 n) (.int .i64 (pl:Nat)) (.slice sa ts.length sc))
 have PQ:=hid h.ck.pl
 have HS:=hid hS
 have HT:=hid hS2
 have HK:=hid hk
 have HL:=hid hl
 have LS:=hid hls
 obtain ⟨R,hR⟩:∃ R,chk t.kids [] ls.reverse (.nd ⟨#[110,111,116]⟩ nm kd n pl ts)=R:=⟨_,rfl⟩
 have RH:=hid (show (match chkL t.kids [] ls.reverse false nm true ts with
  | .inr f=>((0:Int),f)
  | .inl l=>if nodeK t.kids [] ls.reverse ⟨#[110,111,116]⟩ nm kd l=0 then (0,pl) else (nodeK t.kids [] ls.reverse ⟨#[110,111,116]⟩ nm kd l,0))=R from by rw [← hR,chk,show eqB ⟨#[110,111,116]⟩ ⟨#[115,117,109]⟩=false from rfl];cases chkL t.kids [] ls.reverse false nm true ts <;> rfl)
 have KL9:(ts.length:Int)≤3:=by omega
 have I0:=hid (show OIn w (w.alloc (.cells #[.string ⟨#[110,111,116]⟩,.string nm,.int .i64 (kd:Nat),.int .i64 n,.int .i64 (pl:Nat),.slice sa ts.length sc] 29)) p w.heap.size S S2 t sl ls la ka ⟨#[110,111,116]⟩ nm kd n pl (.slice sa ts.length sc) ts 0 [] (.slice none 0 0) from
  ⟨⟨la,lc,ka,kc,h.keep (S':=fun g=>S g∧g<w.heap.size) B1.out.size (B1.out.block _ h.ck.pl) (fun x e=>B1.out.block _ (h.nl x e).2) (fun x e=>B1.out.block _ (h.nk x e).2) (fun g s l=>⟨⟨s,l⟩,B1.out.block g l⟩),Fr.refl _ _,Fr.refl _ _,fun g e=>by cases e⟩,hd.keep (S':=fun g=>S2 g∧g<w.heap.size) (fun g s l=>⟨⟨s,l⟩,B1.out.block g l⟩),X1.out,Ow.nil _ _ _,(Gr.refl w p).below B1.out,rfl,by
   rw [List.drop_zero]
   show chkL t.kids [] ls.reverse false nm true ts=(match chkL t.kids [] ls.reverse false nm true ts with | .inl l2=>Sum.inl ([] ++ l2) | .inr f=>Sum.inr f)
   cases chkL t.kids [] ls.reverse false nm true ts <;> rfl⟩)
 rw [hR]
 clear h hd hS hS2 hk hR hls hl B1 X1
 go_enter Tryd.func30,Tryd.ntmps30
 go_upto_region 1 with fail
 generalize World.alloc w _=w1 at *
 have e0:=I0.out.bx.c0
 go_wp2_with fail
 clear e0
 go_loopg [6,5] (ts.length) (fun g iv kv wr=>∃ (i:Nat) (l:List Int),i≤ts.length∧g=ts.length - i∧iv=.int .i64 (i:Nat)∧Hid (OIn w wr p w.heap.size S S2 t sl ls la ka ⟨#[110,111,116]⟩ nm kd n pl (.slice sa ts.length sc) ts i l kv))
 case atStart=>exact ⟨0,[],Nat.zero_le _,rfl,rfl,I0.out⟩
 case round =>
  obtain ⟨i,l,hi,rfl,rfl,II⟩:=hrel
  clear I0
  by_cases qi:i<ts.length
  ·have qi':(i:Int)<(ts.length:Int):=by omega
   obtain ⟨k,hk⟩:∃ k,ts[i]?=some k:=⟨_,List.getElem?_eq_getElem qi⟩
   obtain ⟨g,c,s3,ea,nc,nk⟩:=II.out.nd.atY i k hk
   obtain ⟨ka9,km9,kc9,rfl⟩:=nk.slice
   injection ea with ea _ ec
   subst ea ec
   obtain ⟨la1,lc1,ka1,kc1,c1,f1,f2,ap⟩:=II.out.cq
   have KC:=hid (HK.out i k hk _ _ wr la1 lc1 ka1 kc1 _ (fun g s=>HS.out g s.1) (fun g s=>HT.out g s.1) c1 nk)
   unfold OfP at KC
   have CR:=hid (cr_nx (ks:=t.kids) (be:=[]) (loc:=ls.reverse) (s:=false) (nm:=nm) hk)
   have EV:(if (false && decide (0<i))=true then nm :: ls.reverse else ls.reverse)=ls.reverse:=by simp
   rw [EV] at CR
   have SZ:=hid (show w.heap.size+1≤wr.heap.size from II.out.bx.lt)
   have LI:=hid (show l.length≤3 from by have:=II.out.ln;have:=HL.out;omega)
   have AP:=hid ap
   have F1:=hid f1
   have F2:=hid f2
   obtain ⟨n0,n1,n2,n3,n4,n5⟩:=nc
   have e5:=II.out.bx.c5
   clear nk hk c1 ap f1 f2 EV
   generalize chk t.kids [] ls.reverse k=kr at *
   by_cases qk:kr.1=0
   ·rw [show fO kr=some kr.2 from if_pos qk] at KC
    have FF:=hid (show (0,kr.2)=R from by rw [← RH.out,II.out.cr,CR.out,if_pos qk])
    have zk:(0:Int)≤(kr.2:Int):=by omega
    clear qk
    go_upto_region 8 with (first | (go_at_call 30;(with_reducible refine Calls.mono KC.out ?_);rintro e w4 ⟨rfl,h4,g4⟩;obtain ⟨la2,lc2,ka2,kc2,c4,f3,f4⟩:=h4;have C4:=hid c4;have F3:=hid f3;have F4:=hid f4;have G4:=hid g4;have OW:=hid ((II.out.ow.gr g4 (by have:=PQ.out;omega)).below ((Below.refl _ _).alloc (Nat.le_refl _) (.cells #[.int .i64 kr.1] 3)));have S4:=hid (show w.heap.size+1≤(w4.alloc (.cells #[.int .i64 kr.1] 3)).heap.size from by have:=SZ.out;have:=g4.size;simp;omega);clear c4 f3 f4 g4) | (at_builtin;refine wpList_append_sa 66 3 (.int .i64 0) 8 Tryd.underlying66 intInfo11 rfl (by decide) rfl (.tmp 26) (.tmp 34) rfl (w.heap.size+1) _ (ivs l) rfl OW.out (some ⟨w4.heap.size,0,none⟩) 1 1 [.int .i64 kr.1] rfl (sl_new w4 (.int .i64 kr.1) 3 rfl) (by have:=LI.out;rw [ivs_len];omega) S4.out ?_;intro v2 w5 o5 g5 ly;have O5:=hid o5;have G5:=hid g5;have L5:=hid ly;clear o5 g5 ly))
    clear n0 n1 n2 n3 n4 n5 e5
    obtain ⟨c5,gr5,_⟩:=OIn.c5 rfl PQ.out II.out.ow II.out.gr AP.out G4.out C4.out F3.out F4.out G5.out
    have C5:=hid c5
    have c8:w5.cell? ⟨p,8,none⟩=some (.int .i64 (kr.2:Nat)):=c5.ck.c8
    have GR:=hid gr5
    clear c5 gr5
    go_wp2_with fail
    go_returns
    exact ⟨by rw [← FF.out];rfl,by rw [← FF.out];exact ofE (C5.out.sub (fun g s _=>s.1)) (F1.out.trans F3.out II.out.gr.size) (F2.out.trans F4.out II.out.gr.size),GR.out⟩
   ·rw [show fO kr=none from if_neg qk] at KC
    have C2:=hid (show chkL t.kids [] ls.reverse false nm true ts=(match chkL t.kids [] ls.reverse false nm (decide (i+1=0)) (ts.drop (i+1)) with | .inl l2=>.inl ((l ++ [kr.1]) ++ l2) | .inr f=>.inr f) from by
     rw [II.out.cr,CR.out,if_neg qk]
     show _=(match chkL t.kids [] ls.reverse false nm false (ts.drop (i+1)) with | .inl l2=>Sum.inl ((l ++ [kr.1]) ++ l2) | .inr f=>Sum.inr f)
     cases chkL t.kids [] ls.reverse false nm false (ts.drop (i+1)) with
     | inl a=>simp
     | inr a=>rfl)
    clear qk
    go_upto_region 8 with (first | (go_at_call 30;(with_reducible refine Calls.mono KC.out ?_);rintro e w4 ⟨rfl,h4,g4⟩;obtain ⟨la2,lc2,ka2,kc2,c4,f3,f4⟩:=h4;have C4:=hid c4;have F3:=hid f3;have F4:=hid f4;have G4:=hid g4;have OW:=hid ((II.out.ow.gr g4 (by have:=PQ.out;omega)).below ((Below.refl _ _).alloc (Nat.le_refl _) (.cells #[.int .i64 kr.1] 3)));have S4:=hid (show w.heap.size+1≤(w4.alloc (.cells #[.int .i64 kr.1] 3)).heap.size from by have:=SZ.out;have:=g4.size;simp;omega);clear c4 f3 f4 g4) | (at_builtin;refine wpList_append_sa 66 3 (.int .i64 0) 8 Tryd.underlying66 intInfo11 rfl (by decide) rfl (.tmp 26) (.tmp 34) rfl (w.heap.size+1) _ (ivs l) rfl OW.out (some ⟨w4.heap.size,0,none⟩) 1 1 [.int .i64 kr.1] rfl (sl_new w4 (.int .i64 kr.1) 3 rfl) (by have:=LI.out;rw [ivs_len];omega) S4.out ?_;intro v2 w5 o5 g5 ly;have O5:=hid o5;have G5:=hid g5;have L5:=hid ly;clear o5 g5 ly))
    clear n0 n1 n2 n3 n4 n5 e5
    have NI:=hid (OIn.on rfl PQ.out HT.out II.out.nd II.out.bx II.out.ow II.out.gr II.out.ln F1.out F2.out AP.out G4.out C4.out F3.out F4.out O5.out G5.out L5.out C2.out)
    obtain ⟨c5,gr5,_⟩:=OIn.c5 rfl PQ.out II.out.ow II.out.gr AP.out G4.out C4.out F3.out F4.out G5.out
    have c8:w5.cell? ⟨p,8,none⟩=some (.int .i64 (-1)):=c5.ck.c8
    clear c5 gr5
    go_wp2_with fail
    go_roundg (ts.length - (i+1))
    case measure=>omega
    case rel=>exact ⟨i+1,l ++ [kr.1],by omega,rfl,by rw [Int.natCast_add];rfl,NI.out⟩
  ·have qi':¬ (i:Int)<(ts.length:Int):=by omega
   have CF:=hid (show chkL t.kids [] ls.reverse false nm true ts=.inl l from by rw [II.out.cr,List.drop_eq_nil_of_le (by omega),chkL];simp)
   have RF:=hid (show (if nodeK t.kids [] ls.reverse ⟨#[110,111,116]⟩ nm kd l=0 then (0,pl) else (nodeK t.kids [] ls.reverse ⟨#[110,111,116]⟩ nm kd l,0))=R from by rw [← RH.out,CF.out])
   have LE:l.length=1:=by have:=II.out.ln;have:=HL.out;omega
   obtain ⟨a,rfl⟩:∃ a,l=[a]:=by match l,LE with | [a],_=>exact ⟨_,rfl⟩
   obtain ⟨r,rc,rfl,k0⟩:=Ow.c1 (show Ow wr 3 (w.heap.size+1) _ [.int .i64 a] from II.out.ow)
   obtain ⟨la1,lc1,ka1,kc1,c1,f1,f2,ap⟩:=II.out.cq
   have BX:=hid II.out.bx
   have C1:=hid c1
   have F1:=hid f1
   have F2:=hid f2
   have G1:=hid II.out.gr
   clear c1 f1 f2 ap CF LE II
   obtain ⟨x0,x1,x2,x3,x4,x5,xz⟩:=BX.out
   have ND:nodeK t.kids [] ls.reverse ⟨#[110,111,116]⟩ nm kd [a]=unK ⟨#[110,111,116]⟩ a:=by
    show onl (a==1) 1=unK ⟨#[110,111,116]⟩ a
    unfold onl unK
    by_cases q:a=1
    ·rw [if_pos (by simpa using q),if_pos ⟨(eqL _ _).trans rfl,q⟩,q]
    ·rw [if_neg (by simpa using q),if_neg (fun h=>q h.2),if_neg (fun h=>by have n1:=h.1;rw [show ((⟨#[110,111,116]⟩:ByteArray).toList==[110,101,103])=false from (eqL _ _).trans rfl] at n1;cases n1)]
   rw [ND] at RF
   clear ND
   go_upto_region 42 with fail
   have RL:=hid (show r<wr.heap.size from World.block_lt_of_cell? _ _ k0)
   refine wp_region_held_drew (S:=fun W=>Below wr.heap.size wr W) (by kernel_rfl) (Below.refl _ _).drew (fun hHeld=>?_)
   refine take2 rfl (i:=0) (v:=.pointer (some ⟨w.heap.size,0,none⟩)) (d:=176) rfl rfl (by kernel_rfl) (by kernel_rfl) (by kernel_rfl) (fun _ _ _ h=>h) (Or.inl ⟨by rfl,?_⟩) hHeld ?_
   ·(intro W hW;(try dsimp only at hW);go_simp)
   try simp only [Act.put,List.setIfInBounds_toArray,List.set_cons_zero,List.set_cons_succ]
   refine take2 rfl (i:=1) (v:=.string ⟨#[110,111,116]⟩) (d:=177) rfl rfl (by kernel_rfl) (by kernel_rfl) (by kernel_rfl) (fun _ _ _ h=>h) (Or.inl ⟨by rfl,?_⟩) hHeld ?_
   ·(intro W hW;(try dsimp only at hW);have c1:=(BX.out.next hW).c0;go_simp)
   try simp only [Act.put,List.setIfInBounds_toArray,List.set_cons_zero,List.set_cons_succ]
   refine take2 rfl (i:=2) (v:=.slice (some ⟨r,0,none⟩) 1 rc) (d:=178) rfl rfl (by kernel_rfl) (by kernel_rfl) (by kernel_rfl) (fun _ _ _ h=>h) (Or.inl ⟨by rfl,?_⟩) hHeld ?_
   ·(intro W hW;(try dsimp only at hW);go_simp)
   try simp only [Act.put,List.setIfInBounds_toArray,List.set_cons_zero,List.set_cons_succ]
   refine take2 rfl (i:=3) (v:=.pointer (some ⟨r,0,none⟩)) (d:=179) rfl rfl (by kernel_rfl) (by kernel_rfl) (by kernel_rfl) (fun _ _ _ h=>h) (Or.inl ⟨by rfl,?_⟩) hHeld ?_
   ·(intro W hW;(try dsimp only at hW);go_simp)
   try simp only [Act.put,List.setIfInBounds_toArray,List.set_cons_zero,List.set_cons_succ]
   refine take2 rfl (i:=4) (v:=.int .i64 a) (d:=180) rfl rfl (by kernel_rfl) (by kernel_rfl) (by kernel_rfl) (fun _ _ _ h=>h) (Or.inl ⟨by rfl,?_⟩) hHeld ?_
   ·(intro W hW;(try dsimp only at hW);have c1:=(World.cell?_of_block (a:=⟨r,0,none⟩) (hW.block r RL.out)).trans k0;go_simp)
   try simp only [Act.put,List.setIfInBounds_toArray,List.set_cons_zero,List.set_cons_succ]
   have BZ:=hid (show Below wr.heap.size wr wr.drew from (Below.refl _ _).drew)
   have K:=hid (unary_any ⟨#[110,111,116]⟩ a wr.drew)
   generalize unK ⟨#[110,111,116]⟩ a=D at *
   generalize wr.drew=wz at *
   refine wpAnyH_ready (rs:=[5]) (by kernel_rfl) (by simp) ?_
   refine cons2 rfl rfl (fun K9 hK=>?_)
   go_simp
   refine Calls.mono K.out ?_
   rintro e w2 ⟨rfl,rfl⟩
   go_wp2_with fail
   refine hK.out _ _ BZ.out (fun hX=>?_)
   clear hK K9 hHeld
   have hHeld:=hX
   clear hX
   try simp only [Act.put,List.setIfInBounds_toArray,List.set_cons_zero,List.set_cons_succ]
   refine take2 rfl (i:=6) (v:=.int .i64 D) (d:=12) rfl rfl (by kernel_rfl) (by kernel_rfl) (by kernel_rfl) (fun _ _ _ h=>h) (Or.inl ⟨by rfl,?_⟩) hHeld ?_
   ·(intro W hW;(try dsimp only at hW);go_simp)
   try simp only [Act.put,List.setIfInBounds_toArray,List.set_cons_zero,List.set_cons_succ]
   refine wpAnyH_done (by kernel_rfl) ?_ _
   have C3:=hid (C1.out.next BZ.out)
   have G3:=hid (G1.out.below BZ.out)
   have BX3:=hid (BX.out.next BZ.out)
   clear x0 x1 x2 x3 x4 x5 xz k0 K
   obtain ⟨x0,x1,x2,x3,x4,x5,xz⟩:=BX3.out
   by_cases qD:D=0
   ·have zD:(D==0)=true:=by simpa using qD
    have FF:=hid (show (0,pl)=R from by rw [← RF.out,if_pos qD])
    have FC:=hid (fail11_any C3.out.ck (.nd ⟨#[110,111,116]⟩ nm kd n pl ts) (.slice sa ts.length sc) rfl)
    simp only [tr_op9,tr_name9,tr_kind9,tr_n9,tr_pl9,Option.getD_none] at FC
    clear qD
    go_wp2_with (go_at_call 48;(with_reducible refine Calls.mono FC.out ?_);rintro e w9 ⟨rfl,c9,g9⟩;have C9:=hid c9;have G9:=hid g9;clear c9 g9)
    go_returns
    exact ⟨by rw [← FF.out];rfl,by rw [← FF.out];exact ofE ((C3.out.bad (fun g s=>HS.out g s.1) C9.out G9.out).sub (fun g s _=>s.1)) F1.out F2.out,G3.out.trans G9.out⟩
   ·have zD:(D==0)=false:=beqI _ _ qD
    have FF:=hid (show (D,0)=R from by rw [← RF.out,if_neg qD])
    have FN:=hid (show fO (D,0)=none from if_neg qD)
    clear qD
    go_wp2_with fail
    go_returns
    exact ⟨by rw [← FF.out];rfl,by rw [← FF.out,FN.out];exact ofE (C3.out.sub (fun g s _=>s.1)) F1.out F2.out,G3.out⟩
set_option maxRecDepth 100000 in
set_option maxHeartbeats 8000000 in
theorem of_neg (p:Nat) (t:Tr) (sl:Value) (ls:List ByteArray) (hls:ls.length≤100) (nm:ByteArray) (kd:Nat) (n:Int) (pl:Nat) (ts:List Tr) (hl:ts.length=1) (hk:∀ (i:Nat) (k:Tr),ts[i]?=some k→OfC p t sl ls k):OfC p t sl ls (.nd ⟨#[110,101,103]⟩ nm kd n pl ts):=by
 intro S S2 w la lc ka kc v hS hS2 h hd
 unfold OfP
 simp only [tr_op9,tr_name9,tr_kind9,tr_n9,tr_pl9,tr_kids9] at hd ⊢
 obtain ⟨sa,sc,rfl⟩:=hd.lenY
 have B1:=hid (show Below w.heap.size w (w.alloc (.cells #[.string ⟨#[110,101,103]⟩,.string nm,.int .i64 (kd:Nat),.int .i64 n,.int .i64 (pl:Nat),.slice sa ts.length sc] 29)) from (Below.refl _ _).alloc (Nat.le_refl _) _)
 have X1:=hid (B6.new w 29 (.string ⟨#[110,101,103]⟩) (.string nm) (.int .i64 (kd:Nat)) (.int .i64 n) (.int .i64 (pl:Nat)) (.slice sa ts.length sc))
 have PQ:=hid h.ck.pl
 have HS:=hid hS
 have HT:=hid hS2
 have HK:=hid hk
 have HL:=hid hl
 have LS:=hid hls
 obtain ⟨R,hR⟩:∃ R,chk t.kids [] ls.reverse (.nd ⟨#[110,101,103]⟩ nm kd n pl ts)=R:=⟨_,rfl⟩
 have RH:=hid (show (match chkL t.kids [] ls.reverse false nm true ts with
  | .inr f=>((0:Int),f)
  | .inl l=>if nodeK t.kids [] ls.reverse ⟨#[110,101,103]⟩ nm kd l=0 then (0,pl) else (nodeK t.kids [] ls.reverse ⟨#[110,101,103]⟩ nm kd l,0))=R from by rw [← hR,chk,show eqB ⟨#[110,101,103]⟩ ⟨#[115,117,109]⟩=false from rfl];cases chkL t.kids [] ls.reverse false nm true ts <;> rfl)
 have KL9:(ts.length:Int)≤3:=by omega
 have I0:=hid (show OIn w (w.alloc (.cells #[.string ⟨#[110,101,103]⟩,.string nm,.int .i64 (kd:Nat),.int .i64 n,.int .i64 (pl:Nat),.slice sa ts.length sc] 29)) p w.heap.size S S2 t sl ls la ka ⟨#[110,101,103]⟩ nm kd n pl (.slice sa ts.length sc) ts 0 [] (.slice none 0 0) from
  ⟨⟨la,lc,ka,kc,h.keep (S':=fun g=>S g∧g<w.heap.size) B1.out.size (B1.out.block _ h.ck.pl) (fun x e=>B1.out.block _ (h.nl x e).2) (fun x e=>B1.out.block _ (h.nk x e).2) (fun g s l=>⟨⟨s,l⟩,B1.out.block g l⟩),Fr.refl _ _,Fr.refl _ _,fun g e=>by cases e⟩,hd.keep (S':=fun g=>S2 g∧g<w.heap.size) (fun g s l=>⟨⟨s,l⟩,B1.out.block g l⟩),X1.out,Ow.nil _ _ _,(Gr.refl w p).below B1.out,rfl,by
   rw [List.drop_zero]
   show chkL t.kids [] ls.reverse false nm true ts=(match chkL t.kids [] ls.reverse false nm true ts with | .inl l2=>Sum.inl ([] ++ l2) | .inr f=>Sum.inr f)
   cases chkL t.kids [] ls.reverse false nm true ts <;> rfl⟩)
 rw [hR]
 clear h hd hS hS2 hk hR hls hl B1 X1
 go_enter Tryd.func30,Tryd.ntmps30
 go_upto_region 1 with fail
 generalize World.alloc w _=w1 at *
 have e0:=I0.out.bx.c0
 go_wp2_with fail
 clear e0
 go_loopg [6,5] (ts.length) (fun g iv kv wr=>∃ (i:Nat) (l:List Int),i≤ts.length∧g=ts.length - i∧iv=.int .i64 (i:Nat)∧Hid (OIn w wr p w.heap.size S S2 t sl ls la ka ⟨#[110,101,103]⟩ nm kd n pl (.slice sa ts.length sc) ts i l kv))
 case atStart=>exact ⟨0,[],Nat.zero_le _,rfl,rfl,I0.out⟩
 case round =>
  obtain ⟨i,l,hi,rfl,rfl,II⟩:=hrel
  clear I0
  by_cases qi:i<ts.length
  ·have qi':(i:Int)<(ts.length:Int):=by omega
   obtain ⟨k,hk⟩:∃ k,ts[i]?=some k:=⟨_,List.getElem?_eq_getElem qi⟩
   obtain ⟨g,c,s3,ea,nc,nk⟩:=II.out.nd.atY i k hk
   obtain ⟨ka9,km9,kc9,rfl⟩:=nk.slice
   injection ea with ea _ ec
   subst ea ec
   obtain ⟨la1,lc1,ka1,kc1,c1,f1,f2,ap⟩:=II.out.cq
   have KC:=hid (HK.out i k hk _ _ wr la1 lc1 ka1 kc1 _ (fun g s=>HS.out g s.1) (fun g s=>HT.out g s.1) c1 nk)
   unfold OfP at KC
   have CR:=hid (cr_nx (ks:=t.kids) (be:=[]) (loc:=ls.reverse) (s:=false) (nm:=nm) hk)
   have EV:(if (false && decide (0<i))=true then nm :: ls.reverse else ls.reverse)=ls.reverse:=by simp
   rw [EV] at CR
   have SZ:=hid (show w.heap.size+1≤wr.heap.size from II.out.bx.lt)
   have LI:=hid (show l.length≤3 from by have:=II.out.ln;have:=HL.out;omega)
   have AP:=hid ap
   have F1:=hid f1
   have F2:=hid f2
   obtain ⟨n0,n1,n2,n3,n4,n5⟩:=nc
   have e5:=II.out.bx.c5
   clear nk hk c1 ap f1 f2 EV
   generalize chk t.kids [] ls.reverse k=kr at *
   by_cases qk:kr.1=0
   ·rw [show fO kr=some kr.2 from if_pos qk] at KC
    have FF:=hid (show (0,kr.2)=R from by rw [← RH.out,II.out.cr,CR.out,if_pos qk])
    have zk:(0:Int)≤(kr.2:Int):=by omega
    clear qk
    go_upto_region 8 with (first | (go_at_call 30;(with_reducible refine Calls.mono KC.out ?_);rintro e w4 ⟨rfl,h4,g4⟩;obtain ⟨la2,lc2,ka2,kc2,c4,f3,f4⟩:=h4;have C4:=hid c4;have F3:=hid f3;have F4:=hid f4;have G4:=hid g4;have OW:=hid ((II.out.ow.gr g4 (by have:=PQ.out;omega)).below ((Below.refl _ _).alloc (Nat.le_refl _) (.cells #[.int .i64 kr.1] 3)));have S4:=hid (show w.heap.size+1≤(w4.alloc (.cells #[.int .i64 kr.1] 3)).heap.size from by have:=SZ.out;have:=g4.size;simp;omega);clear c4 f3 f4 g4) | (at_builtin;refine wpList_append_sa 66 3 (.int .i64 0) 8 Tryd.underlying66 intInfo11 rfl (by decide) rfl (.tmp 26) (.tmp 34) rfl (w.heap.size+1) _ (ivs l) rfl OW.out (some ⟨w4.heap.size,0,none⟩) 1 1 [.int .i64 kr.1] rfl (sl_new w4 (.int .i64 kr.1) 3 rfl) (by have:=LI.out;rw [ivs_len];omega) S4.out ?_;intro v2 w5 o5 g5 ly;have O5:=hid o5;have G5:=hid g5;have L5:=hid ly;clear o5 g5 ly))
    clear n0 n1 n2 n3 n4 n5 e5
    obtain ⟨c5,gr5,_⟩:=OIn.c5 rfl PQ.out II.out.ow II.out.gr AP.out G4.out C4.out F3.out F4.out G5.out
    have C5:=hid c5
    have c8:w5.cell? ⟨p,8,none⟩=some (.int .i64 (kr.2:Nat)):=c5.ck.c8
    have GR:=hid gr5
    clear c5 gr5
    go_wp2_with fail
    go_returns
    exact ⟨by rw [← FF.out];rfl,by rw [← FF.out];exact ofE (C5.out.sub (fun g s _=>s.1)) (F1.out.trans F3.out II.out.gr.size) (F2.out.trans F4.out II.out.gr.size),GR.out⟩
   ·rw [show fO kr=none from if_neg qk] at KC
    have C2:=hid (show chkL t.kids [] ls.reverse false nm true ts=(match chkL t.kids [] ls.reverse false nm (decide (i+1=0)) (ts.drop (i+1)) with | .inl l2=>.inl ((l ++ [kr.1]) ++ l2) | .inr f=>.inr f) from by
     rw [II.out.cr,CR.out,if_neg qk]
     show _=(match chkL t.kids [] ls.reverse false nm false (ts.drop (i+1)) with | .inl l2=>Sum.inl ((l ++ [kr.1]) ++ l2) | .inr f=>Sum.inr f)
     cases chkL t.kids [] ls.reverse false nm false (ts.drop (i+1)) with
     | inl a=>simp
     | inr a=>rfl)
    clear qk
    go_upto_region 8 with (first | (go_at_call 30;(with_reducible refine Calls.mono KC.out ?_);rintro e w4 ⟨rfl,h4,g4⟩;obtain ⟨la2,lc2,ka2,kc2,c4,f3,f4⟩:=h4;have C4:=hid c4;have F3:=hid f3;have F4:=hid f4;have G4:=hid g4;have OW:=hid ((II.out.ow.gr g4 (by have:=PQ.out;omega)).below ((Below.refl _ _).alloc (Nat.le_refl _) (.cells #[.int .i64 kr.1] 3)));have S4:=hid (show w.heap.size+1≤(w4.alloc (.cells #[.int .i64 kr.1] 3)).heap.size from by have:=SZ.out;have:=g4.size;simp;omega);clear c4 f3 f4 g4) | (at_builtin;refine wpList_append_sa 66 3 (.int .i64 0) 8 Tryd.underlying66 intInfo11 rfl (by decide) rfl (.tmp 26) (.tmp 34) rfl (w.heap.size+1) _ (ivs l) rfl OW.out (some ⟨w4.heap.size,0,none⟩) 1 1 [.int .i64 kr.1] rfl (sl_new w4 (.int .i64 kr.1) 3 rfl) (by have:=LI.out;rw [ivs_len];omega) S4.out ?_;intro v2 w5 o5 g5 ly;have O5:=hid o5;have G5:=hid g5;have L5:=hid ly;clear o5 g5 ly))
    clear n0 n1 n2 n3 n4 n5 e5
    have NI:=hid (OIn.on rfl PQ.out HT.out II.out.nd II.out.bx II.out.ow II.out.gr II.out.ln F1.out F2.out AP.out G4.out C4.out F3.out F4.out O5.out G5.out L5.out C2.out)
    obtain ⟨c5,gr5,_⟩:=OIn.c5 rfl PQ.out II.out.ow II.out.gr AP.out G4.out C4.out F3.out F4.out G5.out
    have c8:w5.cell? ⟨p,8,none⟩=some (.int .i64 (-1)):=c5.ck.c8
    clear c5 gr5
    go_wp2_with fail
    go_roundg (ts.length - (i+1))
    case measure=>omega
    case rel=>exact ⟨i+1,l ++ [kr.1],by omega,rfl,by rw [Int.natCast_add];rfl,NI.out⟩
  ·have qi':¬ (i:Int)<(ts.length:Int):=by omega
   have CF:=hid (show chkL t.kids [] ls.reverse false nm true ts=.inl l from by rw [II.out.cr,List.drop_eq_nil_of_le (by omega),chkL];simp)
   have RF:=hid (show (if nodeK t.kids [] ls.reverse ⟨#[110,101,103]⟩ nm kd l=0 then (0,pl) else (nodeK t.kids [] ls.reverse ⟨#[110,101,103]⟩ nm kd l,0))=R from by rw [← RH.out,CF.out])
   have LE:l.length=1:=by have:=II.out.ln;have:=HL.out;omega
   obtain ⟨a,rfl⟩:∃ a,l=[a]:=by match l,LE with | [a],_=>exact ⟨_,rfl⟩
   obtain ⟨r,rc,rfl,k0⟩:=Ow.c1 (show Ow wr 3 (w.heap.size+1) _ [.int .i64 a] from II.out.ow)
   obtain ⟨la1,lc1,ka1,kc1,c1,f1,f2,ap⟩:=II.out.cq
   have BX:=hid II.out.bx
   have C1:=hid c1
   have F1:=hid f1
   have F2:=hid f2
   have G1:=hid II.out.gr
   clear c1 f1 f2 ap CF LE II
   obtain ⟨x0,x1,x2,x3,x4,x5,xz⟩:=BX.out
   have ND:nodeK t.kids [] ls.reverse ⟨#[110,101,103]⟩ nm kd [a]=unK ⟨#[110,101,103]⟩ a:=by
    show onl (amt a) a=unK ⟨#[110,101,103]⟩ a
    unfold onl unK amt
    rw [if_neg (show ¬(((⟨#[110,101,103]⟩:ByteArray).toList==[110,111,116])=true∧a=1) from fun h=>by have n1:=h.1;rw [show ((⟨#[110,101,103]⟩:ByteArray).toList==[110,111,116])=false from (eqL _ _).trans rfl] at n1;cases n1)]
    by_cases q:2≤a∧a≤4
    ·rw [if_pos (by simpa using q),if_pos ⟨(eqL _ _).trans rfl,q⟩]
    ·rw [if_neg (by simpa using q),if_neg (fun h=>q h.2)]
   rw [ND] at RF
   clear ND
   go_upto_region 42 with fail
   have RL:=hid (show r<wr.heap.size from World.block_lt_of_cell? _ _ k0)
   refine wp_region_held_drew (S:=fun W=>Below wr.heap.size wr W) (by kernel_rfl) (Below.refl _ _).drew (fun hHeld=>?_)
   refine take2 rfl (i:=0) (v:=.pointer (some ⟨w.heap.size,0,none⟩)) (d:=176) rfl rfl (by kernel_rfl) (by kernel_rfl) (by kernel_rfl) (fun _ _ _ h=>h) (Or.inl ⟨by rfl,?_⟩) hHeld ?_
   ·(intro W hW;(try dsimp only at hW);go_simp)
   try simp only [Act.put,List.setIfInBounds_toArray,List.set_cons_zero,List.set_cons_succ]
   refine take2 rfl (i:=1) (v:=.string ⟨#[110,101,103]⟩) (d:=177) rfl rfl (by kernel_rfl) (by kernel_rfl) (by kernel_rfl) (fun _ _ _ h=>h) (Or.inl ⟨by rfl,?_⟩) hHeld ?_
   ·(intro W hW;(try dsimp only at hW);have c1:=(BX.out.next hW).c0;go_simp)
   try simp only [Act.put,List.setIfInBounds_toArray,List.set_cons_zero,List.set_cons_succ]
   refine take2 rfl (i:=2) (v:=.slice (some ⟨r,0,none⟩) 1 rc) (d:=178) rfl rfl (by kernel_rfl) (by kernel_rfl) (by kernel_rfl) (fun _ _ _ h=>h) (Or.inl ⟨by rfl,?_⟩) hHeld ?_
   ·(intro W hW;(try dsimp only at hW);go_simp)
   try simp only [Act.put,List.setIfInBounds_toArray,List.set_cons_zero,List.set_cons_succ]
   refine take2 rfl (i:=3) (v:=.pointer (some ⟨r,0,none⟩)) (d:=179) rfl rfl (by kernel_rfl) (by kernel_rfl) (by kernel_rfl) (fun _ _ _ h=>h) (Or.inl ⟨by rfl,?_⟩) hHeld ?_
   ·(intro W hW;(try dsimp only at hW);go_simp)
   try simp only [Act.put,List.setIfInBounds_toArray,List.set_cons_zero,List.set_cons_succ]
   refine take2 rfl (i:=4) (v:=.int .i64 a) (d:=180) rfl rfl (by kernel_rfl) (by kernel_rfl) (by kernel_rfl) (fun _ _ _ h=>h) (Or.inl ⟨by rfl,?_⟩) hHeld ?_
   ·(intro W hW;(try dsimp only at hW);have c1:=(World.cell?_of_block (a:=⟨r,0,none⟩) (hW.block r RL.out)).trans k0;go_simp)
   try simp only [Act.put,List.setIfInBounds_toArray,List.set_cons_zero,List.set_cons_succ]
   have BZ:=hid (show Below wr.heap.size wr wr.drew from (Below.refl _ _).drew)
   have K:=hid (unary_any ⟨#[110,101,103]⟩ a wr.drew)
   generalize unK ⟨#[110,101,103]⟩ a=D at *
   generalize wr.drew=wz at *
   refine wpAnyH_ready (rs:=[5]) (by kernel_rfl) (by simp) ?_
   refine cons2 rfl rfl (fun K9 hK=>?_)
   go_simp
   refine Calls.mono K.out ?_
   rintro e w2 ⟨rfl,rfl⟩
   go_wp2_with fail
   refine hK.out _ _ BZ.out (fun hX=>?_)
   clear hK K9 hHeld
   have hHeld:=hX
   clear hX
   try simp only [Act.put,List.setIfInBounds_toArray,List.set_cons_zero,List.set_cons_succ]
   refine take2 rfl (i:=6) (v:=.int .i64 D) (d:=12) rfl rfl (by kernel_rfl) (by kernel_rfl) (by kernel_rfl) (fun _ _ _ h=>h) (Or.inl ⟨by rfl,?_⟩) hHeld ?_
   ·(intro W hW;(try dsimp only at hW);go_simp)
   try simp only [Act.put,List.setIfInBounds_toArray,List.set_cons_zero,List.set_cons_succ]
   refine wpAnyH_done (by kernel_rfl) ?_ _
   have C3:=hid (C1.out.next BZ.out)
   have G3:=hid (G1.out.below BZ.out)
   have BX3:=hid (BX.out.next BZ.out)
   clear x0 x1 x2 x3 x4 x5 xz k0 K
   obtain ⟨x0,x1,x2,x3,x4,x5,xz⟩:=BX3.out
   by_cases qD:D=0
   ·have zD:(D==0)=true:=by simpa using qD
    have FF:=hid (show (0,pl)=R from by rw [← RF.out,if_pos qD])
    have FC:=hid (fail11_any C3.out.ck (.nd ⟨#[110,101,103]⟩ nm kd n pl ts) (.slice sa ts.length sc) rfl)
    simp only [tr_op9,tr_name9,tr_kind9,tr_n9,tr_pl9,Option.getD_none] at FC
    clear qD
    go_wp2_with (go_at_call 48;(with_reducible refine Calls.mono FC.out ?_);rintro e w9 ⟨rfl,c9,g9⟩;have C9:=hid c9;have G9:=hid g9;clear c9 g9)
    go_returns
    exact ⟨by rw [← FF.out];rfl,by rw [← FF.out];exact ofE ((C3.out.bad (fun g s=>HS.out g s.1) C9.out G9.out).sub (fun g s _=>s.1)) F1.out F2.out,G3.out.trans G9.out⟩
   ·have zD:(D==0)=false:=beqI _ _ qD
    have FF:=hid (show (D,0)=R from by rw [← RF.out,if_neg qD])
    have FN:=hid (show fO (D,0)=none from if_neg qD)
    clear qD
    go_wp2_with fail
    go_returns
    exact ⟨by rw [← FF.out];rfl,by rw [← FF.out,FN.out];exact ofE (C3.out.sub (fun g s _=>s.1)) F1.out F2.out,G3.out⟩
set_option maxRecDepth 100000 in
set_option maxHeartbeats 8000000 in
theorem of_len (p:Nat) (t:Tr) (sl:Value) (ls:List ByteArray) (hls:ls.length≤100) (nm:ByteArray) (kd:Nat) (n:Int) (pl:Nat) (ts:List Tr) (hl:ts.length=1) (hk:∀ (i:Nat) (k:Tr),ts[i]?=some k→OfC p t sl ls k):OfC p t sl ls (.nd ⟨#[108,101,110]⟩ nm kd n pl ts):=by
 intro S S2 w la lc ka kc v hS hS2 h hd
 unfold OfP
 simp only [tr_op9,tr_name9,tr_kind9,tr_n9,tr_pl9,tr_kids9] at hd ⊢
 obtain ⟨sa,sc,rfl⟩:=hd.lenY
 have B1:=hid (show Below w.heap.size w (w.alloc (.cells #[.string ⟨#[108,101,110]⟩,.string nm,.int .i64 (kd:Nat),.int .i64 n,.int .i64 (pl:Nat),.slice sa ts.length sc] 29)) from (Below.refl _ _).alloc (Nat.le_refl _) _)
 have X1:=hid (B6.new w 29 (.string ⟨#[108,101,110]⟩) (.string nm) (.int .i64 (kd:Nat)) (.int .i64 n) (.int .i64 (pl:Nat)) (.slice sa ts.length sc))
 have PQ:=hid h.ck.pl
 have HS:=hid hS
 have HT:=hid hS2
 have HK:=hid hk
 have HL:=hid hl
 have LS:=hid hls
 obtain ⟨R,hR⟩:∃ R,chk t.kids [] ls.reverse (.nd ⟨#[108,101,110]⟩ nm kd n pl ts)=R:=⟨_,rfl⟩
 have RH:=hid (show (match chkL t.kids [] ls.reverse false nm true ts with
  | .inr f=>((0:Int),f)
  | .inl l=>if nodeK t.kids [] ls.reverse ⟨#[108,101,110]⟩ nm kd l=0 then (0,pl) else (nodeK t.kids [] ls.reverse ⟨#[108,101,110]⟩ nm kd l,0))=R from by rw [← hR,chk,show eqB ⟨#[108,101,110]⟩ ⟨#[115,117,109]⟩=false from rfl];cases chkL t.kids [] ls.reverse false nm true ts <;> rfl)
 have KL9:(ts.length:Int)≤3:=by omega
 have I0:=hid (show OIn w (w.alloc (.cells #[.string ⟨#[108,101,110]⟩,.string nm,.int .i64 (kd:Nat),.int .i64 n,.int .i64 (pl:Nat),.slice sa ts.length sc] 29)) p w.heap.size S S2 t sl ls la ka ⟨#[108,101,110]⟩ nm kd n pl (.slice sa ts.length sc) ts 0 [] (.slice none 0 0) from
  ⟨⟨la,lc,ka,kc,h.keep (S':=fun g=>S g∧g<w.heap.size) B1.out.size (B1.out.block _ h.ck.pl) (fun x e=>B1.out.block _ (h.nl x e).2) (fun x e=>B1.out.block _ (h.nk x e).2) (fun g s l=>⟨⟨s,l⟩,B1.out.block g l⟩),Fr.refl _ _,Fr.refl _ _,fun g e=>by cases e⟩,hd.keep (S':=fun g=>S2 g∧g<w.heap.size) (fun g s l=>⟨⟨s,l⟩,B1.out.block g l⟩),X1.out,Ow.nil _ _ _,(Gr.refl w p).below B1.out,rfl,by
   rw [List.drop_zero]
   show chkL t.kids [] ls.reverse false nm true ts=(match chkL t.kids [] ls.reverse false nm true ts with | .inl l2=>Sum.inl ([] ++ l2) | .inr f=>Sum.inr f)
   cases chkL t.kids [] ls.reverse false nm true ts <;> rfl⟩)
 rw [hR]
 clear h hd hS hS2 hk hR hls hl B1 X1
 go_enter Tryd.func30,Tryd.ntmps30
 go_upto_region 1 with fail
 generalize World.alloc w _=w1 at *
 have e0:=I0.out.bx.c0
 go_wp2_with fail
 clear e0
 go_loopg [6,5] (ts.length) (fun g iv kv wr=>∃ (i:Nat) (l:List Int),i≤ts.length∧g=ts.length - i∧iv=.int .i64 (i:Nat)∧Hid (OIn w wr p w.heap.size S S2 t sl ls la ka ⟨#[108,101,110]⟩ nm kd n pl (.slice sa ts.length sc) ts i l kv))
 case atStart=>exact ⟨0,[],Nat.zero_le _,rfl,rfl,I0.out⟩
 case round =>
  obtain ⟨i,l,hi,rfl,rfl,II⟩:=hrel
  clear I0
  by_cases qi:i<ts.length
  ·have qi':(i:Int)<(ts.length:Int):=by omega
   obtain ⟨k,hk⟩:∃ k,ts[i]?=some k:=⟨_,List.getElem?_eq_getElem qi⟩
   obtain ⟨g,c,s3,ea,nc,nk⟩:=II.out.nd.atY i k hk
   obtain ⟨ka9,km9,kc9,rfl⟩:=nk.slice
   injection ea with ea _ ec
   subst ea ec
   obtain ⟨la1,lc1,ka1,kc1,c1,f1,f2,ap⟩:=II.out.cq
   have KC:=hid (HK.out i k hk _ _ wr la1 lc1 ka1 kc1 _ (fun g s=>HS.out g s.1) (fun g s=>HT.out g s.1) c1 nk)
   unfold OfP at KC
   have CR:=hid (cr_nx (ks:=t.kids) (be:=[]) (loc:=ls.reverse) (s:=false) (nm:=nm) hk)
   have EV:(if (false && decide (0<i))=true then nm :: ls.reverse else ls.reverse)=ls.reverse:=by simp
   rw [EV] at CR
   have SZ:=hid (show w.heap.size+1≤wr.heap.size from II.out.bx.lt)
   have LI:=hid (show l.length≤3 from by have:=II.out.ln;have:=HL.out;omega)
   have AP:=hid ap
   have F1:=hid f1
   have F2:=hid f2
   obtain ⟨n0,n1,n2,n3,n4,n5⟩:=nc
   have e5:=II.out.bx.c5
   clear nk hk c1 ap f1 f2 EV
   generalize chk t.kids [] ls.reverse k=kr at *
   by_cases qk:kr.1=0
   ·rw [show fO kr=some kr.2 from if_pos qk] at KC
    have FF:=hid (show (0,kr.2)=R from by rw [← RH.out,II.out.cr,CR.out,if_pos qk])
    have zk:(0:Int)≤(kr.2:Int):=by omega
    clear qk
    go_upto_region 8 with (first | (go_at_call 30;(with_reducible refine Calls.mono KC.out ?_);rintro e w4 ⟨rfl,h4,g4⟩;obtain ⟨la2,lc2,ka2,kc2,c4,f3,f4⟩:=h4;have C4:=hid c4;have F3:=hid f3;have F4:=hid f4;have G4:=hid g4;have OW:=hid ((II.out.ow.gr g4 (by have:=PQ.out;omega)).below ((Below.refl _ _).alloc (Nat.le_refl _) (.cells #[.int .i64 kr.1] 3)));have S4:=hid (show w.heap.size+1≤(w4.alloc (.cells #[.int .i64 kr.1] 3)).heap.size from by have:=SZ.out;have:=g4.size;simp;omega);clear c4 f3 f4 g4) | (at_builtin;refine wpList_append_sa 66 3 (.int .i64 0) 8 Tryd.underlying66 intInfo11 rfl (by decide) rfl (.tmp 26) (.tmp 34) rfl (w.heap.size+1) _ (ivs l) rfl OW.out (some ⟨w4.heap.size,0,none⟩) 1 1 [.int .i64 kr.1] rfl (sl_new w4 (.int .i64 kr.1) 3 rfl) (by have:=LI.out;rw [ivs_len];omega) S4.out ?_;intro v2 w5 o5 g5 ly;have O5:=hid o5;have G5:=hid g5;have L5:=hid ly;clear o5 g5 ly))
    clear n0 n1 n2 n3 n4 n5 e5
    obtain ⟨c5,gr5,_⟩:=OIn.c5 rfl PQ.out II.out.ow II.out.gr AP.out G4.out C4.out F3.out F4.out G5.out
    have C5:=hid c5
    have c8:w5.cell? ⟨p,8,none⟩=some (.int .i64 (kr.2:Nat)):=c5.ck.c8
    have GR:=hid gr5
    clear c5 gr5
    go_wp2_with fail
    go_returns
    exact ⟨by rw [← FF.out];rfl,by rw [← FF.out];exact ofE (C5.out.sub (fun g s _=>s.1)) (F1.out.trans F3.out II.out.gr.size) (F2.out.trans F4.out II.out.gr.size),GR.out⟩
   ·rw [show fO kr=none from if_neg qk] at KC
    have C2:=hid (show chkL t.kids [] ls.reverse false nm true ts=(match chkL t.kids [] ls.reverse false nm (decide (i+1=0)) (ts.drop (i+1)) with | .inl l2=>.inl ((l ++ [kr.1]) ++ l2) | .inr f=>.inr f) from by
     rw [II.out.cr,CR.out,if_neg qk]
     show _=(match chkL t.kids [] ls.reverse false nm false (ts.drop (i+1)) with | .inl l2=>Sum.inl ((l ++ [kr.1]) ++ l2) | .inr f=>Sum.inr f)
     cases chkL t.kids [] ls.reverse false nm false (ts.drop (i+1)) with
     | inl a=>simp
     | inr a=>rfl)
    clear qk
    go_upto_region 8 with (first | (go_at_call 30;(with_reducible refine Calls.mono KC.out ?_);rintro e w4 ⟨rfl,h4,g4⟩;obtain ⟨la2,lc2,ka2,kc2,c4,f3,f4⟩:=h4;have C4:=hid c4;have F3:=hid f3;have F4:=hid f4;have G4:=hid g4;have OW:=hid ((II.out.ow.gr g4 (by have:=PQ.out;omega)).below ((Below.refl _ _).alloc (Nat.le_refl _) (.cells #[.int .i64 kr.1] 3)));have S4:=hid (show w.heap.size+1≤(w4.alloc (.cells #[.int .i64 kr.1] 3)).heap.size from by have:=SZ.out;have:=g4.size;simp;omega);clear c4 f3 f4 g4) | (at_builtin;refine wpList_append_sa 66 3 (.int .i64 0) 8 Tryd.underlying66 intInfo11 rfl (by decide) rfl (.tmp 26) (.tmp 34) rfl (w.heap.size+1) _ (ivs l) rfl OW.out (some ⟨w4.heap.size,0,none⟩) 1 1 [.int .i64 kr.1] rfl (sl_new w4 (.int .i64 kr.1) 3 rfl) (by have:=LI.out;rw [ivs_len];omega) S4.out ?_;intro v2 w5 o5 g5 ly;have O5:=hid o5;have G5:=hid g5;have L5:=hid ly;clear o5 g5 ly))
    clear n0 n1 n2 n3 n4 n5 e5
    have NI:=hid (OIn.on rfl PQ.out HT.out II.out.nd II.out.bx II.out.ow II.out.gr II.out.ln F1.out F2.out AP.out G4.out C4.out F3.out F4.out O5.out G5.out L5.out C2.out)
    obtain ⟨c5,gr5,_⟩:=OIn.c5 rfl PQ.out II.out.ow II.out.gr AP.out G4.out C4.out F3.out F4.out G5.out
    have c8:w5.cell? ⟨p,8,none⟩=some (.int .i64 (-1)):=c5.ck.c8
    clear c5 gr5
    go_wp2_with fail
    go_roundg (ts.length - (i+1))
    case measure=>omega
    case rel=>exact ⟨i+1,l ++ [kr.1],by omega,rfl,by rw [Int.natCast_add];rfl,NI.out⟩
  ·have qi':¬ (i:Int)<(ts.length:Int):=by omega
   have CF:=hid (show chkL t.kids [] ls.reverse false nm true ts=.inl l from by rw [II.out.cr,List.drop_eq_nil_of_le (by omega),chkL];simp)
   have RF:=hid (show (if nodeK t.kids [] ls.reverse ⟨#[108,101,110]⟩ nm kd l=0 then (0,pl) else (nodeK t.kids [] ls.reverse ⟨#[108,101,110]⟩ nm kd l,0))=R from by rw [← RH.out,CF.out])
   have LE:l.length=1:=by have:=II.out.ln;have:=HL.out;omega
   obtain ⟨a,rfl⟩:∃ a,l=[a]:=by match l,LE with | [a],_=>exact ⟨_,rfl⟩
   obtain ⟨r,rc,rfl,k0⟩:=Ow.c1 (show Ow wr 3 (w.heap.size+1) _ [.int .i64 a] from II.out.ow)
   obtain ⟨la1,lc1,ka1,kc1,c1,f1,f2,ap⟩:=II.out.cq
   have BX:=hid II.out.bx
   have C1:=hid c1
   have F1:=hid f1
   have F2:=hid f2
   have G1:=hid II.out.gr
   clear c1 f1 f2 ap CF LE II
   obtain ⟨x0,x1,x2,x3,x4,x5,xz⟩:=BX.out
   have ND:nodeK t.kids [] ls.reverse ⟨#[108,101,110]⟩ nm kd [a]=onl (a==6) 2:=rfl
   rw [ND] at RF
   clear ND
   by_cases q:a=6
   ·have z:(a != 6)=false:=by simpa using q
    have FF:=hid (show ((2:Int),0)=R from by rw [← RF.out,show (a==6)=true from by simpa using q];rfl)
    have FN:=hid (show fO ((2:Int),0)=none from rfl)
    clear q
    go_wp2_with fail
    go_returns
    exact ⟨by rw [← FF.out];rfl,by rw [← FF.out,FN.out];exact ofE (C1.out.sub (fun g s _=>s.1)) F1.out F2.out,G1.out⟩
   ·have z:(a != 6)=true:=by simpa using q
    have FF:=hid (show ((0:Int),pl)=R from by rw [← RF.out,show (a==6)=false from beqI _ _ q];rfl)
    have FC:=hid (fail11_any C1.out.ck (.nd ⟨#[108,101,110]⟩ nm kd n pl ts) (.slice sa ts.length sc) rfl)
    simp only [tr_op9,tr_name9,tr_kind9,tr_n9,tr_pl9,Option.getD_none] at FC
    clear q
    go_wp2_with (go_at_call 48;(with_reducible refine Calls.mono FC.out ?_);rintro e w9 ⟨rfl,c9,g9⟩;have C9:=hid c9;have G9:=hid g9;clear c9 g9)
    go_returns
    exact ⟨by rw [← FF.out];rfl,by rw [← FF.out];exact ofE ((C1.out.bad (fun g s=>HS.out g s.1) C9.out G9.out).sub (fun g s _=>s.1)) F1.out F2.out,G1.out.trans G9.out⟩
set_option maxRecDepth 100000 in
set_option maxHeartbeats 8000000 in
theorem of_if (p:Nat) (t:Tr) (sl:Value) (ls:List ByteArray) (hls:ls.length≤100) (nm:ByteArray) (kd:Nat) (n:Int) (pl:Nat) (ts:List Tr) (hl:ts.length=3) (hk:∀ (i:Nat) (k:Tr),ts[i]?=some k→OfC p t sl ls k):OfC p t sl ls (.nd ⟨#[105,102]⟩ nm kd n pl ts):=by
 intro S S2 w la lc ka kc v hS hS2 h hd
 unfold OfP
 simp only [tr_op9,tr_name9,tr_kind9,tr_n9,tr_pl9,tr_kids9] at hd ⊢
 obtain ⟨sa,sc,rfl⟩:=hd.lenY
 have B1:=hid (show Below w.heap.size w (w.alloc (.cells #[.string ⟨#[105,102]⟩,.string nm,.int .i64 (kd:Nat),.int .i64 n,.int .i64 (pl:Nat),.slice sa ts.length sc] 29)) from (Below.refl _ _).alloc (Nat.le_refl _) _)
 have X1:=hid (B6.new w 29 (.string ⟨#[105,102]⟩) (.string nm) (.int .i64 (kd:Nat)) (.int .i64 n) (.int .i64 (pl:Nat)) (.slice sa ts.length sc))
 have PQ:=hid h.ck.pl
 have HS:=hid hS
 have HT:=hid hS2
 have HK:=hid hk
 have HL:=hid hl
 have LS:=hid hls
 obtain ⟨R,hR⟩:∃ R,chk t.kids [] ls.reverse (.nd ⟨#[105,102]⟩ nm kd n pl ts)=R:=⟨_,rfl⟩
 have RH:=hid (show (match chkL t.kids [] ls.reverse false nm true ts with
  | .inr f=>((0:Int),f)
  | .inl l=>if nodeK t.kids [] ls.reverse ⟨#[105,102]⟩ nm kd l=0 then (0,pl) else (nodeK t.kids [] ls.reverse ⟨#[105,102]⟩ nm kd l,0))=R from by rw [← hR,chk,show eqB ⟨#[105,102]⟩ ⟨#[115,117,109]⟩=false from rfl];cases chkL t.kids [] ls.reverse false nm true ts <;> rfl)
 have KL9:(ts.length:Int)≤3:=by omega
 have I0:=hid (show OIn w (w.alloc (.cells #[.string ⟨#[105,102]⟩,.string nm,.int .i64 (kd:Nat),.int .i64 n,.int .i64 (pl:Nat),.slice sa ts.length sc] 29)) p w.heap.size S S2 t sl ls la ka ⟨#[105,102]⟩ nm kd n pl (.slice sa ts.length sc) ts 0 [] (.slice none 0 0) from
  ⟨⟨la,lc,ka,kc,h.keep (S':=fun g=>S g∧g<w.heap.size) B1.out.size (B1.out.block _ h.ck.pl) (fun x e=>B1.out.block _ (h.nl x e).2) (fun x e=>B1.out.block _ (h.nk x e).2) (fun g s l=>⟨⟨s,l⟩,B1.out.block g l⟩),Fr.refl _ _,Fr.refl _ _,fun g e=>by cases e⟩,hd.keep (S':=fun g=>S2 g∧g<w.heap.size) (fun g s l=>⟨⟨s,l⟩,B1.out.block g l⟩),X1.out,Ow.nil _ _ _,(Gr.refl w p).below B1.out,rfl,by
   rw [List.drop_zero]
   show chkL t.kids [] ls.reverse false nm true ts=(match chkL t.kids [] ls.reverse false nm true ts with | .inl l2=>Sum.inl ([] ++ l2) | .inr f=>Sum.inr f)
   cases chkL t.kids [] ls.reverse false nm true ts <;> rfl⟩)
 rw [hR]
 clear h hd hS hS2 hk hR hls hl B1 X1
 go_enter Tryd.func30,Tryd.ntmps30
 go_upto_region 1 with fail
 generalize World.alloc w _=w1 at *
 have e0:=I0.out.bx.c0
 go_wp2_with fail
 clear e0
 go_loopg [6,5] (ts.length) (fun g iv kv wr=>∃ (i:Nat) (l:List Int),i≤ts.length∧g=ts.length - i∧iv=.int .i64 (i:Nat)∧Hid (OIn w wr p w.heap.size S S2 t sl ls la ka ⟨#[105,102]⟩ nm kd n pl (.slice sa ts.length sc) ts i l kv))
 case atStart=>exact ⟨0,[],Nat.zero_le _,rfl,rfl,I0.out⟩
 case round =>
  obtain ⟨i,l,hi,rfl,rfl,II⟩:=hrel
  clear I0
  by_cases qi:i<ts.length
  ·have qi':(i:Int)<(ts.length:Int):=by omega
   obtain ⟨k,hk⟩:∃ k,ts[i]?=some k:=⟨_,List.getElem?_eq_getElem qi⟩
   obtain ⟨g,c,s3,ea,nc,nk⟩:=II.out.nd.atY i k hk
   obtain ⟨ka9,km9,kc9,rfl⟩:=nk.slice
   injection ea with ea _ ec
   subst ea ec
   obtain ⟨la1,lc1,ka1,kc1,c1,f1,f2,ap⟩:=II.out.cq
   have KC:=hid (HK.out i k hk _ _ wr la1 lc1 ka1 kc1 _ (fun g s=>HS.out g s.1) (fun g s=>HT.out g s.1) c1 nk)
   unfold OfP at KC
   have CR:=hid (cr_nx (ks:=t.kids) (be:=[]) (loc:=ls.reverse) (s:=false) (nm:=nm) hk)
   have EV:(if (false && decide (0<i))=true then nm :: ls.reverse else ls.reverse)=ls.reverse:=by simp
   rw [EV] at CR
   have SZ:=hid (show w.heap.size+1≤wr.heap.size from II.out.bx.lt)
   have LI:=hid (show l.length≤3 from by have:=II.out.ln;have:=HL.out;omega)
   have AP:=hid ap
   have F1:=hid f1
   have F2:=hid f2
   obtain ⟨n0,n1,n2,n3,n4,n5⟩:=nc
   have e5:=II.out.bx.c5
   clear nk hk c1 ap f1 f2 EV
   generalize chk t.kids [] ls.reverse k=kr at *
   by_cases qk:kr.1=0
   ·rw [show fO kr=some kr.2 from if_pos qk] at KC
    have FF:=hid (show (0,kr.2)=R from by rw [← RH.out,II.out.cr,CR.out,if_pos qk])
    have zk:(0:Int)≤(kr.2:Int):=by omega
    clear qk
    go_upto_region 8 with (first | (go_at_call 30;(with_reducible refine Calls.mono KC.out ?_);rintro e w4 ⟨rfl,h4,g4⟩;obtain ⟨la2,lc2,ka2,kc2,c4,f3,f4⟩:=h4;have C4:=hid c4;have F3:=hid f3;have F4:=hid f4;have G4:=hid g4;have OW:=hid ((II.out.ow.gr g4 (by have:=PQ.out;omega)).below ((Below.refl _ _).alloc (Nat.le_refl _) (.cells #[.int .i64 kr.1] 3)));have S4:=hid (show w.heap.size+1≤(w4.alloc (.cells #[.int .i64 kr.1] 3)).heap.size from by have:=SZ.out;have:=g4.size;simp;omega);clear c4 f3 f4 g4) | (at_builtin;refine wpList_append_sa 66 3 (.int .i64 0) 8 Tryd.underlying66 intInfo11 rfl (by decide) rfl (.tmp 26) (.tmp 34) rfl (w.heap.size+1) _ (ivs l) rfl OW.out (some ⟨w4.heap.size,0,none⟩) 1 1 [.int .i64 kr.1] rfl (sl_new w4 (.int .i64 kr.1) 3 rfl) (by have:=LI.out;rw [ivs_len];omega) S4.out ?_;intro v2 w5 o5 g5 ly;have O5:=hid o5;have G5:=hid g5;have L5:=hid ly;clear o5 g5 ly))
    clear n0 n1 n2 n3 n4 n5 e5
    obtain ⟨c5,gr5,_⟩:=OIn.c5 rfl PQ.out II.out.ow II.out.gr AP.out G4.out C4.out F3.out F4.out G5.out
    have C5:=hid c5
    have c8:w5.cell? ⟨p,8,none⟩=some (.int .i64 (kr.2:Nat)):=c5.ck.c8
    have GR:=hid gr5
    clear c5 gr5
    go_wp2_with fail
    go_returns
    exact ⟨by rw [← FF.out];rfl,by rw [← FF.out];exact ofE (C5.out.sub (fun g s _=>s.1)) (F1.out.trans F3.out II.out.gr.size) (F2.out.trans F4.out II.out.gr.size),GR.out⟩
   ·rw [show fO kr=none from if_neg qk] at KC
    have C2:=hid (show chkL t.kids [] ls.reverse false nm true ts=(match chkL t.kids [] ls.reverse false nm (decide (i+1=0)) (ts.drop (i+1)) with | .inl l2=>.inl ((l ++ [kr.1]) ++ l2) | .inr f=>.inr f) from by
     rw [II.out.cr,CR.out,if_neg qk]
     show _=(match chkL t.kids [] ls.reverse false nm false (ts.drop (i+1)) with | .inl l2=>Sum.inl ((l ++ [kr.1]) ++ l2) | .inr f=>Sum.inr f)
     cases chkL t.kids [] ls.reverse false nm false (ts.drop (i+1)) with
     | inl a=>simp
     | inr a=>rfl)
    clear qk
    go_upto_region 8 with (first | (go_at_call 30;(with_reducible refine Calls.mono KC.out ?_);rintro e w4 ⟨rfl,h4,g4⟩;obtain ⟨la2,lc2,ka2,kc2,c4,f3,f4⟩:=h4;have C4:=hid c4;have F3:=hid f3;have F4:=hid f4;have G4:=hid g4;have OW:=hid ((II.out.ow.gr g4 (by have:=PQ.out;omega)).below ((Below.refl _ _).alloc (Nat.le_refl _) (.cells #[.int .i64 kr.1] 3)));have S4:=hid (show w.heap.size+1≤(w4.alloc (.cells #[.int .i64 kr.1] 3)).heap.size from by have:=SZ.out;have:=g4.size;simp;omega);clear c4 f3 f4 g4) | (at_builtin;refine wpList_append_sa 66 3 (.int .i64 0) 8 Tryd.underlying66 intInfo11 rfl (by decide) rfl (.tmp 26) (.tmp 34) rfl (w.heap.size+1) _ (ivs l) rfl OW.out (some ⟨w4.heap.size,0,none⟩) 1 1 [.int .i64 kr.1] rfl (sl_new w4 (.int .i64 kr.1) 3 rfl) (by have:=LI.out;rw [ivs_len];omega) S4.out ?_;intro v2 w5 o5 g5 ly;have O5:=hid o5;have G5:=hid g5;have L5:=hid ly;clear o5 g5 ly))
    clear n0 n1 n2 n3 n4 n5 e5
    have NI:=hid (OIn.on rfl PQ.out HT.out II.out.nd II.out.bx II.out.ow II.out.gr II.out.ln F1.out F2.out AP.out G4.out C4.out F3.out F4.out O5.out G5.out L5.out C2.out)
    obtain ⟨c5,gr5,_⟩:=OIn.c5 rfl PQ.out II.out.ow II.out.gr AP.out G4.out C4.out F3.out F4.out G5.out
    have c8:w5.cell? ⟨p,8,none⟩=some (.int .i64 (-1)):=c5.ck.c8
    clear c5 gr5
    go_wp2_with fail
    go_roundg (ts.length - (i+1))
    case measure=>omega
    case rel=>exact ⟨i+1,l ++ [kr.1],by omega,rfl,by rw [Int.natCast_add];rfl,NI.out⟩
  ·have qi':¬ (i:Int)<(ts.length:Int):=by omega
   have CF:=hid (show chkL t.kids [] ls.reverse false nm true ts=.inl l from by rw [II.out.cr,List.drop_eq_nil_of_le (by omega),chkL];simp)
   have RF:=hid (show (if nodeK t.kids [] ls.reverse ⟨#[105,102]⟩ nm kd l=0 then (0,pl) else (nodeK t.kids [] ls.reverse ⟨#[105,102]⟩ nm kd l,0))=R from by rw [← RH.out,CF.out])
   have LE:l.length=3:=by have:=II.out.ln;have:=HL.out;omega
   obtain ⟨a,b,c,rfl⟩:∃ a b c,l=[a,b,c]:=by match l,LE with | [a,b,c],_=>exact ⟨_,_,_,rfl⟩
   obtain ⟨r,rc,rfl,k0,k1,k2⟩:=Ow.c3 (show Ow wr 3 (w.heap.size+1) _ [.int .i64 a,.int .i64 b,.int .i64 c] from II.out.ow)
   obtain ⟨la1,lc1,ka1,kc1,c1,f1,f2,ap⟩:=II.out.cq
   have BX:=hid II.out.bx
   have C1:=hid c1
   have F1:=hid f1
   have F2:=hid f2
   have G1:=hid II.out.gr
   have CF9:=hid CF.out
   clear c1 f1 f2 ap CF LE II
   obtain ⟨x0,x1,x2,x3,x4,x5,xz⟩:=BX.out
   have ND:nodeK t.kids [] ls.reverse ⟨#[105,102]⟩ nm kd [a,b,c]=onl ((a==1) && (b==c) && (b != 6)) b:=rfl
   rw [ND] at RF
   clear ND
   by_cases q1:a=1
   ·have z1:(a==1)=true:=by simpa using q1
    have y1:(a != 1)=false:=by simpa using q1
    by_cases q2:b=c
    ·have z2:(b==c)=true:=by simpa using q2
     have y2:(b != c)=false:=by simpa using q2
     by_cases q3:b=6
     ·have z3:(b != 6)=false:=by simpa using q3
      have y3:(b==6)=true:=by simpa using q3
      have FF:=hid (show ((0:Int),pl)=R from by rw [← RF.out,z1,z2,z3];rfl)
      clear q1 q2 q3 z1 z2 z3
      go_upto_region 36 with fail
      go_quiet (fail)
      have BQ:=hid (drewN_below wr nq)
      have C3:=hid (C1.out.next BQ.out)
      have G3:=hid (G1.out.below BQ.out)
      have FC:=hid (fail11_any C3.out.ck (.nd ⟨#[105,102]⟩ nm kd n pl ts) (.slice sa ts.length sc) rfl)
      simp only [tr_op9,tr_name9,tr_kind9,tr_n9,tr_pl9,Option.getD_none] at FC
      go_wp2_with (go_at_call 48;(with_reducible refine Calls.mono FC.out ?_);rintro e w9 ⟨rfl,c9,g9⟩;have C9:=hid c9;have G9:=hid g9;clear c9 g9)
      go_returns
      exact ⟨by rw [← FF.out];rfl,by rw [← FF.out];exact ofE ((C3.out.bad (fun g s=>HS.out g s.1) C9.out G9.out).sub (fun g s _=>s.1)) F1.out F2.out,G3.out.trans G9.out⟩
     ·have z3:(b != 6)=true:=by simpa using q3
      have y3:(b==6)=false:=beqI _ _ q3
      by_cases qD:b=0
      ·have FF:=hid (show ((0:Int),pl)=R from by rw [← RF.out,z1,z2,z3,qD];rfl)
       exact absurd qD (nz3 CF9.out)
      ·have FF:=hid (show (b,0)=R from by rw [← RF.out,z1,z2,z3];show (b,0)=(if b=0 then ((0:Int),pl) else (b,0));rw [if_neg qD])
       have FN:=hid (show fO (b,0)=none from if_neg qD)
       clear q1 q2 q3 z1 z2 z3 qD
       go_upto_region 36 with fail
       go_quiet (fail)
       have BQ:=hid (drewN_below wr nq)
       have C3:=hid (C1.out.next BQ.out)
       have G3:=hid (G1.out.below BQ.out)
       go_wp2_with fail
       go_returns
       exact ⟨by rw [← FF.out];rfl,by rw [← FF.out,FN.out];exact ofE (C3.out.sub (fun g s _=>s.1)) F1.out F2.out,G3.out⟩
    ·have z2:(b==c)=false:=beqI _ _ q2
     have y2:(b != c)=true:=by simpa using q2
     have FF:=hid (show ((0:Int),pl)=R from by rw [← RF.out,z1,z2];rfl)
     clear q1 q2 z1 z2
     go_upto_region 36 with fail
     go_quiet (fail)
     have BQ:=hid (drewN_below wr nq)
     have C3:=hid (C1.out.next BQ.out)
     have G3:=hid (G1.out.below BQ.out)
     have FC:=hid (fail11_any C3.out.ck (.nd ⟨#[105,102]⟩ nm kd n pl ts) (.slice sa ts.length sc) rfl)
     simp only [tr_op9,tr_name9,tr_kind9,tr_n9,tr_pl9,Option.getD_none] at FC
     go_wp2_with (go_at_call 48;(with_reducible refine Calls.mono FC.out ?_);rintro e w9 ⟨rfl,c9,g9⟩;have C9:=hid c9;have G9:=hid g9;clear c9 g9)
     go_returns
     exact ⟨by rw [← FF.out];rfl,by rw [← FF.out];exact ofE ((C3.out.bad (fun g s=>HS.out g s.1) C9.out G9.out).sub (fun g s _=>s.1)) F1.out F2.out,G3.out.trans G9.out⟩
   ·have z1:(a==1)=false:=beqI _ _ q1
    have y1:(a != 1)=true:=by simpa using q1
    have FF:=hid (show ((0:Int),pl)=R from by rw [← RF.out,z1];rfl)
    clear q1 z1
    go_upto_region 36 with fail
    go_quiet (fail)
    have BQ:=hid (drewN_below wr nq)
    have C3:=hid (C1.out.next BQ.out)
    have G3:=hid (G1.out.below BQ.out)
    have FC:=hid (fail11_any C3.out.ck (.nd ⟨#[105,102]⟩ nm kd n pl ts) (.slice sa ts.length sc) rfl)
    simp only [tr_op9,tr_name9,tr_kind9,tr_n9,tr_pl9,Option.getD_none] at FC
    go_wp2_with (go_at_call 48;(with_reducible refine Calls.mono FC.out ?_);rintro e w9 ⟨rfl,c9,g9⟩;have C9:=hid c9;have G9:=hid g9;clear c9 g9)
    go_returns
    exact ⟨by rw [← FF.out];rfl,by rw [← FF.out];exact ofE ((C3.out.bad (fun g s=>HS.out g s.1) C9.out G9.out).sub (fun g s _=>s.1)) F1.out F2.out,G3.out.trans G9.out⟩
end Go.Proofs.YtonmdlhlkacppaaDoor
