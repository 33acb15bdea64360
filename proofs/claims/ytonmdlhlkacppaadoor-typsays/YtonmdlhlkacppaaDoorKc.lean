/- Parts of the proof. -/
import Derived.Test.YtonmdlhlkacppaaDoorKa
import Derived.BigQuiet
import Derived.Deep.RegionHeld3
namespace Go.Proofs.YtonmdlhlkacppaaDoor
open Go.RowKit
set_option linter.unusedVariables false
set_option linter.unusedSimpArgs false
def pre (n:Nat):Int:=match n with | 0=>-1 | k+1=>(k:Nat)
theorem pre_len (n:Nat):(n:Int) - 1=pre n:=by
 cases n with
 | zero=>rfl
 | succ k=>show ((k+1:Nat):Int) - 1=((k:Nat):Int);omega
theorem val_cons (k:Tr) (ks:List Tr) (nm:ByteArray):valK (k :: ks) nm=if (isVal k.op && eqB k.name nm)=true then some k.kind else valK ks nm:=by
 unfold valK
 rw [List.find?_cons]
 cases (isVal k.op && eqB k.name nm) <;> rfl
theorem gd_val {k:Tr} (h:GD k):isVal k.op=!(eqB k.op ⟨#[116,97,98,108,101]⟩)∧1≤k.kind:=by
 cases h with
 | inp nm kind a h1 h6=>exact ⟨rfl,h1⟩
 | rul nm kind a e h1 h6 he=>exact ⟨rfl,h1⟩
 | tab nm kind kk a rs l h1 h6 k1 k6 hl hr hz=>exact ⟨rfl,h1⟩
theorem cnt_none {ls:List ByteArray} {nm:ByteArray} (h:∀ (j:Nat) (x:ByteArray),0≤j→ls[j]?=some x→eqB x nm=false):cntK ls.reverse nm=0:=by
 unfold cntK
 rw [List.countP_eq_zero]
 intro x hx
 obtain ⟨j,hj⟩:=List.mem_iff_getElem?.1 (List.mem_reverse.1 hx)
 rw [h j x (Nat.zero_le _) hj]
 decide
theorem cnt_some {ls:List ByteArray} {nm x:ByteArray} {j:Nat} (hj:ls[j]?=some x) (h:eqB x nm=true):0<cntK ls.reverse nm:=by
 unfold cntK
 rw [List.countP_pos_iff]
 exact ⟨x,List.mem_reverse.2 (List.mem_iff_getElem?.2 ⟨j,hj⟩),h⟩
set_option maxRecDepth 100000 in
set_option maxHeartbeats 8000000 in
theorem of_lit (p:Nat) (t:Tr) (sl:Value) (ls:List ByteArray) (hls:ls.length≤100) (nm:ByteArray) (kd:Nat) (n:Int) (pl:Nat) (h1:1≤kd) (h5:kd≤5) (ts:List Tr) (hl:ts.length=0) (hk:∀ (i:Nat) (k:Tr),ts[i]?=some k→OfC p t sl ls k):OfC p t sl ls (.nd ⟨#[108,105,116]⟩ nm kd n pl ts):=by
 intro S S2 w la lc ka kc v hS hS2 h hd
 unfold OfP
 simp only [tr_op9,tr_name9,tr_kind9,tr_n9,tr_pl9,tr_kids9] at hd ⊢
 obtain ⟨sa,sc,rfl⟩:=hd.lenY
 have B1:=hid (show Below w.heap.size w (w.alloc (.cells #[.string ⟨#[108,105,116]⟩,.string nm,.int .i64 (kd:Nat),.int .i64 n,.int .i64 (pl:Nat),.slice sa ts.length sc] 29)) from (Below.refl _ _).alloc (Nat.le_refl _) _)
 have X1:=hid (B6.new w 29 (.string ⟨#[108,105,116]⟩) (.string nm) (.int .i64 (kd:Nat)) (.int .i64 n) (.int .i64 (pl:Nat)) (.slice sa ts.length sc))
 have PQ:=hid h.ck.pl
 have HS:=hid hS
 have HT:=hid hS2
 have HK:=hid hk
 have HL:=hid hl
 have LS:=hid hls
 obtain ⟨R,hR⟩:∃ R,chk t.kids [] ls.reverse (.nd ⟨#[108,105,116]⟩ nm kd n pl ts)=R:=⟨_,rfl⟩
 have RH:=hid (show (match chkL t.kids [] ls.reverse false nm true ts with
  | .inr f=>((0:Int),f)
  | .inl l=>if nodeK t.kids [] ls.reverse ⟨#[108,105,116]⟩ nm kd l=0 then (0,pl) else (nodeK t.kids [] ls.reverse ⟨#[108,105,116]⟩ nm kd l,0))=R from by rw [← hR,chk,show eqB ⟨#[108,105,116]⟩ ⟨#[115,117,109]⟩=false from rfl];cases chkL t.kids [] ls.reverse false nm true ts <;> rfl)
 have KL9:(ts.length:Int)≤3:=by omega
 have I0:=hid (show OIn w (w.alloc (.cells #[.string ⟨#[108,105,116]⟩,.string nm,.int .i64 (kd:Nat),.int .i64 n,.int .i64 (pl:Nat),.slice sa ts.length sc] 29)) p w.heap.size S S2 t sl ls la ka ⟨#[108,105,116]⟩ nm kd n pl (.slice sa ts.length sc) ts 0 [] (.slice none 0 0) from
  ⟨⟨la,lc,ka,kc,h.keep (S':=fun g=>S g∧g<w.heap.size) B1.out.size (B1.out.block _ h.ck.pl) (fun x e=>B1.out.block _ (h.nl x e).2) (fun x e=>B1.out.block _ (h.nk x e).2) (fun g s l=>⟨⟨s,l⟩,B1.out.block g l⟩),Fr.refl _ _,Fr.refl _ _,fun g e=>by cases e⟩,hd.keep (S':=fun g=>S2 g∧g<w.heap.size) (fun g s l=>⟨⟨s,l⟩,B1.out.block g l⟩),X1.out,Ow.nil _ _ _,(Gr.refl w p).below B1.out,rfl,by
   rw [List.drop_zero]
   show chkL t.kids [] ls.reverse false nm true ts=(match chkL t.kids [] ls.reverse false nm true ts with | .inl l2=>Sum.inl ([] ++ l2) | .inr f=>Sum.inr f)
   cases chkL t.kids [] ls.reverse false nm true ts <;> rfl⟩)
 rw [hR]
 clear h hd hS hS2 hk hR hls hl B1 X1
 go_enter Tryd.func30,Tryd.ntmps30
 go_upto_region 1 with fail
 generalize World.alloc w _=w1 at *
 have e0:=I0.out.bx.c0
 go_wp2_with fail
 clear e0
 go_loopg [6,5] (ts.length) (fun g iv kv wr=>∃ (i:Nat) (l:List Int),i≤ts.length∧g=ts.length - i∧iv=.int .i64 (i:Nat)∧Hid (OIn w wr p w.heap.size S S2 t sl ls la ka ⟨#[108,105,116]⟩ nm kd n pl (.slice sa ts.length sc) ts i l kv))
 case atStart=>exact ⟨0,[],Nat.zero_le _,rfl,rfl,I0.out⟩
 case round =>
  obtain ⟨i,l,hi,rfl,rfl,II⟩:=hrel
  clear I0
  by_cases qi:i<ts.length
  ·have qi':(i:Int)<(ts.length:Int):=by omega
   obtain ⟨k,hk⟩:∃ k,ts[i]?=some k:=⟨_,List.getElem?_eq_getElem qi⟩
   obtain ⟨g,c,s3,ea,nc,nk⟩:=II.out.nd.atY i k hk
   obtain ⟨ka9,km9,kc9,rfl⟩:=nk.slice
   injection ea with ea _ ec
   subst ea ec
   obtain ⟨la1,lc1,ka1,kc1,c1,f1,f2,ap⟩:=II.out.cq
   have KC:=hid (HK.out i k hk _ _ wr la1 lc1 ka1 kc1 _ (fun g s=>HS.out g s.1) (fun g s=>HT.out g s.1) c1 nk)
   unfold OfP at KC
   have CR:=hid (cr_nx (ks:=t.kids) (be:=[]) (loc:=ls.reverse) (s:=false) (nm:=nm) hk)
   have EV:(if (false && decide (0<i))=true then nm :: ls.reverse else ls.reverse)=ls.reverse:=by simp
   rw [EV] at CR
   have SZ:=hid (show w.heap.size+1≤wr.heap.size from II.out.bx.lt)
   have LI:=hid (show l.length≤3 from by have:=II.out.ln;have:=HL.out;omega)
   have AP:=hid ap
   have F1:=hid f1
   have F2:=hid f2
   obtain ⟨n0,n1,n2,n3,n4,n5⟩:=nc
   have e5:=II.out.bx.c5
   clear nk hk c1 ap f1 f2 EV
   generalize chk t.kids [] ls.reverse k=kr at *
   by_cases qk:kr.1=0
   ·rw [show fO kr=some kr.2 from if_pos qk] at KC
    have FF:=hid (show (0,kr.2)=R from by rw [← RH.out,II.out.cr,CR.out,if_pos qk])
    have zk:(0:Int)≤(kr.2:Int):=by omega
    clear qk
    go_upto_region 8 with (first | (go_at_call 30;(with_reducible refine Calls.mono KC.out ?_);rintro e w4 ⟨rfl,h4,g4⟩;obtain ⟨la2,lc2,ka2,kc2,c4,f3,f4⟩:=h4;have C4:=hid c4;have F3:=hid f3;have F4:=hid f4;have G4:=hid g4;have OW:=hid ((II.out.ow.gr g4 (by have:=PQ.out;omega)).below ((Below.refl _ _).alloc (Nat.le_refl _) (.cells #[.int .i64 kr.1] 3)));have S4:=hid (show w.heap.size+1≤(w4.alloc (.cells #[.int .i64 kr.1] 3)).heap.size from by have:=SZ.out;have:=g4.size;simp;omega);clear c4 f3 f4 g4) | (at_builtin;refine wpList_append_sa 66 3 (.int .i64 0) 8 Tryd.underlying66 intInfo11 rfl (by decide) rfl (.tmp 26) (.tmp 34) rfl (w.heap.size+1) _ (ivs l) rfl OW.out (some ⟨w4.heap.size,0,none⟩) 1 1 [.int .i64 kr.1] rfl (sl_new w4 (.int .i64 kr.1) 3 rfl) (by have:=LI.out;rw [ivs_len];omega) S4.out ?_;intro v2 w5 o5 g5 ly;have O5:=hid o5;have G5:=hid g5;have L5:=hid ly;clear o5 g5 ly))
    clear n0 n1 n2 n3 n4 n5 e5
    obtain ⟨c5,gr5,_⟩:=OIn.c5 rfl PQ.out II.out.ow II.out.gr AP.out G4.out C4.out F3.out F4.out G5.out
    have C5:=hid c5
    have c8:w5.cell? ⟨p,8,none⟩=some (.int .i64 (kr.2:Nat)):=c5.ck.c8
    have GR:=hid gr5
    clear c5 gr5
    go_wp2_with fail
    go_returns
    exact ⟨by rw [← FF.out];rfl,by rw [← FF.out];exact ofE (C5.out.sub (fun g s _=>s.1)) (F1.out.trans F3.out II.out.gr.size) (F2.out.trans F4.out II.out.gr.size),GR.out⟩
   ·rw [show fO kr=none from if_neg qk] at KC
    have C2:=hid (show chkL t.kids [] ls.reverse false nm true ts=(match chkL t.kids [] ls.reverse false nm (decide (i+1=0)) (ts.drop (i+1)) with | .inl l2=>.inl ((l ++ [kr.1]) ++ l2) | .inr f=>.inr f) from by
     rw [II.out.cr,CR.out,if_neg qk]
     show _=(match chkL t.kids [] ls.reverse false nm false (ts.drop (i+1)) with | .inl l2=>Sum.inl ((l ++ [kr.1]) ++ l2) | .inr f=>Sum.inr f)
     cases chkL t.kids [] ls.reverse false nm false (ts.drop (i+1)) with
     | inl a=>simp
     | inr a=>rfl)
    clear qk
    go_upto_region 8 with (first | (go_at_call 30;(with_reducible refine Calls.mono KC.out ?_);rintro e w4 ⟨rfl,h4,g4⟩;obtain ⟨la2,lc2,ka2,kc2,c4,f3,f4⟩:=h4;have C4:=hid c4;have F3:=hid f3;have F4:=hid f4;have G4:=hid g4;have OW:=hid ((II.out.ow.gr g4 (by have:=PQ.out;omega)).below ((Below.refl _ _).alloc (Nat.le_refl _) (.cells #[.int .i64 kr.1] 3)));have S4:=hid (show w.heap.size+1≤(w4.alloc (.cells #[.int .i64 kr.1] 3)).heap.size from by have:=SZ.out;have:=g4.size;simp;omega);clear c4 f3 f4 g4) | (at_builtin;refine wpList_append_sa 66 3 (.int .i64 0) 8 Tryd.underlying66 intInfo11 rfl (by decide) rfl (.tmp 26) (.tmp 34) rfl (w.heap.size+1) _ (ivs l) rfl OW.out (some ⟨w4.heap.size,0,none⟩) 1 1 [.int .i64 kr.1] rfl (sl_new w4 (.int .i64 kr.1) 3 rfl) (by have:=LI.out;rw [ivs_len];omega) S4.out ?_;intro v2 w5 o5 g5 ly;have O5:=hid o5;have G5:=hid g5;have L5:=hid ly;clear o5 g5 ly))
    clear n0 n1 n2 n3 n4 n5 e5
    have NI:=hid (OIn.on rfl PQ.out HT.out II.out.nd II.out.bx II.out.ow II.out.gr II.out.ln F1.out F2.out AP.out G4.out C4.out F3.out F4.out O5.out G5.out L5.out C2.out)
    obtain ⟨c5,gr5,_⟩:=OIn.c5 rfl PQ.out II.out.ow II.out.gr AP.out G4.out C4.out F3.out F4.out G5.out
    have c8:w5.cell? ⟨p,8,none⟩=some (.int .i64 (-1)):=c5.ck.c8
    clear c5 gr5
    go_wp2_with fail
    go_roundg (ts.length - (i+1))
    case measure=>omega
    case rel=>exact ⟨i+1,l ++ [kr.1],by omega,rfl,by rw [Int.natCast_add];rfl,NI.out⟩
  ·have qi':¬ (i:Int)<(ts.length:Int):=by omega
   have CF:=hid (show chkL t.kids [] ls.reverse false nm true ts=.inl l from by rw [II.out.cr,List.drop_eq_nil_of_le (by omega),chkL];simp)
   have RF:=hid (show (if nodeK t.kids [] ls.reverse ⟨#[108,105,116]⟩ nm kd l=0 then (0,pl) else (nodeK t.kids [] ls.reverse ⟨#[108,105,116]⟩ nm kd l,0))=R from by rw [← RH.out,CF.out])
   have LE:l.length=0:=by have:=II.out.ln;have:=HL.out;omega
   obtain rfl:l=[]:=List.length_eq_zero_iff.1 LE
   obtain ⟨la1,lc1,ka1,kc1,c1,f1,f2,ap⟩:=II.out.cq
   have BX:=hid II.out.bx
   have C1:=hid c1
   have F1:=hid f1
   have F2:=hid f2
   have G1:=hid II.out.gr
   clear c1 f1 f2 ap CF LE II
   obtain ⟨x0,x1,x2,x3,x4,x5,xz⟩:=BX.out
   have ND:nodeK t.kids [] ls.reverse ⟨#[108,105,116]⟩ nm kd []=((kd:Nat):Int):=by unfold nodeK onl;rw [if_pos (by rfl),if_pos (by simp;omega)]
   rw [ND] at RF
   clear ND
   have FF:=hid (show (((kd:Nat):Int),0)=R from by rw [← RF.out,if_neg (by omega)])
   have FN:=hid (show fO (((kd:Nat):Int),0)=none from if_neg (by show ¬ ((kd:Nat):Int)=0;omega))
   clear h1 h5
   go_wp2_with fail
   go_returns
   exact ⟨by rw [← FF.out];rfl,by rw [← FF.out,FN.out];exact ofE (C1.out.sub (fun g s _=>s.1)) F1.out F2.out,G1.out⟩
set_option maxRecDepth 100000 in
set_option maxHeartbeats 8000000 in
theorem of_name (p:Nat) (t:Tr) (sl:Value) (ls:List ByteArray) (hls:ls.length≤100) (nm:ByteArray) (kd:Nat) (n:Int) (pl:Nat) (hg:∀ k,k ∈ t.kids→GD k) (hn:t.kids.length≤10000) (ts:List Tr) (hl:ts.length=0) (hk:∀ (i:Nat) (k:Tr),ts[i]?=some k→OfC p t sl ls k):OfC p t sl ls (.nd ⟨#[110,97,109,101]⟩ nm kd n pl ts):=by
 intro S S2 w la lc ka kc v hS hS2 h hd
 unfold OfP
 simp only [tr_op9,tr_name9,tr_kind9,tr_n9,tr_pl9,tr_kids9] at hd ⊢
 obtain ⟨sa,sc,rfl⟩:=hd.lenY
 have B1:=hid (show Below w.heap.size w (w.alloc (.cells #[.string ⟨#[110,97,109,101]⟩,.string nm,.int .i64 (kd:Nat),.int .i64 n,.int .i64 (pl:Nat),.slice sa ts.length sc] 29)) from (Below.refl _ _).alloc (Nat.le_refl _) _)
 have X1:=hid (B6.new w 29 (.string ⟨#[110,97,109,101]⟩) (.string nm) (.int .i64 (kd:Nat)) (.int .i64 n) (.int .i64 (pl:Nat)) (.slice sa ts.length sc))
 have PQ:=hid h.ck.pl
 have HS:=hid hS
 have HT:=hid hS2
 have HK:=hid hk
 have HL:=hid hl
 have LS:=hid hls
 obtain ⟨R,hR⟩:∃ R,chk t.kids [] ls.reverse (.nd ⟨#[110,97,109,101]⟩ nm kd n pl ts)=R:=⟨_,rfl⟩
 have RH:=hid (show (match chkL t.kids [] ls.reverse false nm true ts with
  | .inr f=>((0:Int),f)
  | .inl l=>if nodeK t.kids [] ls.reverse ⟨#[110,97,109,101]⟩ nm kd l=0 then (0,pl) else (nodeK t.kids [] ls.reverse ⟨#[110,97,109,101]⟩ nm kd l,0))=R from by rw [← hR,chk,show eqB ⟨#[110,97,109,101]⟩ ⟨#[115,117,109]⟩=false from rfl];cases chkL t.kids [] ls.reverse false nm true ts <;> rfl)
 have KL9:(ts.length:Int)≤3:=by omega
 have I0:=hid (show OIn w (w.alloc (.cells #[.string ⟨#[110,97,109,101]⟩,.string nm,.int .i64 (kd:Nat),.int .i64 n,.int .i64 (pl:Nat),.slice sa ts.length sc] 29)) p w.heap.size S S2 t sl ls la ka ⟨#[110,97,109,101]⟩ nm kd n pl (.slice sa ts.length sc) ts 0 [] (.slice none 0 0) from
  ⟨⟨la,lc,ka,kc,h.keep (S':=fun g=>S g∧g<w.heap.size) B1.out.size (B1.out.block _ h.ck.pl) (fun x e=>B1.out.block _ (h.nl x e).2) (fun x e=>B1.out.block _ (h.nk x e).2) (fun g s l=>⟨⟨s,l⟩,B1.out.block g l⟩),Fr.refl _ _,Fr.refl _ _,fun g e=>by cases e⟩,hd.keep (S':=fun g=>S2 g∧g<w.heap.size) (fun g s l=>⟨⟨s,l⟩,B1.out.block g l⟩),X1.out,Ow.nil _ _ _,(Gr.refl w p).below B1.out,rfl,by
   rw [List.drop_zero]
   show chkL t.kids [] ls.reverse false nm true ts=(match chkL t.kids [] ls.reverse false nm true ts with | .inl l2=>Sum.inl ([] ++ l2) | .inr f=>Sum.inr f)
   cases chkL t.kids [] ls.reverse false nm true ts <;> rfl⟩)
 rw [hR]
 clear h hd hS hS2 hk hR hls hl B1 X1
 go_enter Tryd.func30,Tryd.ntmps30
 go_upto_region 1 with fail
 generalize World.alloc w _=w1 at *
 have e0:=I0.out.bx.c0
 go_wp2_with fail
 clear e0
 go_loopg [6,5] (ts.length) (fun g iv kv wr=>∃ (i:Nat) (l:List Int),i≤ts.length∧g=ts.length - i∧iv=.int .i64 (i:Nat)∧Hid (OIn w wr p w.heap.size S S2 t sl ls la ka ⟨#[110,97,109,101]⟩ nm kd n pl (.slice sa ts.length sc) ts i l kv))
 case atStart=>exact ⟨0,[],Nat.zero_le _,rfl,rfl,I0.out⟩
 case round =>
  obtain ⟨i,l,hi,rfl,rfl,II⟩:=hrel
  clear I0
  by_cases qi:i<ts.length
  ·have qi':(i:Int)<(ts.length:Int):=by omega
   obtain ⟨k,hk⟩:∃ k,ts[i]?=some k:=⟨_,List.getElem?_eq_getElem qi⟩
   obtain ⟨g,c,s3,ea,nc,nk⟩:=II.out.nd.atY i k hk
   obtain ⟨ka9,km9,kc9,rfl⟩:=nk.slice
   injection ea with ea _ ec
   subst ea ec
   obtain ⟨la1,lc1,ka1,kc1,c1,f1,f2,ap⟩:=II.out.cq
   have KC:=hid (HK.out i k hk _ _ wr la1 lc1 ka1 kc1 _ (fun g s=>HS.out g s.1) (fun g s=>HT.out g s.1) c1 nk)
   unfold OfP at KC
   have CR:=hid (cr_nx (ks:=t.kids) (be:=[]) (loc:=ls.reverse) (s:=false) (nm:=nm) hk)
   have EV:(if (false && decide (0<i))=true then nm :: ls.reverse else ls.reverse)=ls.reverse:=by simp
   rw [EV] at CR
   have SZ:=hid (show w.heap.size+1≤wr.heap.size from II.out.bx.lt)
   have LI:=hid (show l.length≤3 from by have:=II.out.ln;have:=HL.out;omega)
   have AP:=hid ap
   have F1:=hid f1
   have F2:=hid f2
   obtain ⟨n0,n1,n2,n3,n4,n5⟩:=nc
   have e5:=II.out.bx.c5
   clear nk hk c1 ap f1 f2 EV
   generalize chk t.kids [] ls.reverse k=kr at *
   by_cases qk:kr.1=0
   ·rw [show fO kr=some kr.2 from if_pos qk] at KC
    have FF:=hid (show (0,kr.2)=R from by rw [← RH.out,II.out.cr,CR.out,if_pos qk])
    have zk:(0:Int)≤(kr.2:Int):=by omega
    clear qk
    go_upto_region 8 with (first | (go_at_call 30;(with_reducible refine Calls.mono KC.out ?_);rintro e w4 ⟨rfl,h4,g4⟩;obtain ⟨la2,lc2,ka2,kc2,c4,f3,f4⟩:=h4;have C4:=hid c4;have F3:=hid f3;have F4:=hid f4;have G4:=hid g4;have OW:=hid ((II.out.ow.gr g4 (by have:=PQ.out;omega)).below ((Below.refl _ _).alloc (Nat.le_refl _) (.cells #[.int .i64 kr.1] 3)));have S4:=hid (show w.heap.size+1≤(w4.alloc (.cells #[.int .i64 kr.1] 3)).heap.size from by have:=SZ.out;have:=g4.size;simp;omega);clear c4 f3 f4 g4) | (at_builtin;refine wpList_append_sa 66 3 (.int .i64 0) 8 Tryd.underlying66 intInfo11 rfl (by decide) rfl (.tmp 26) (.tmp 34) rfl (w.heap.size+1) _ (ivs l) rfl OW.out (some ⟨w4.heap.size,0,none⟩) 1 1 [.int .i64 kr.1] rfl (sl_new w4 (.int .i64 kr.1) 3 rfl) (by have:=LI.out;rw [ivs_len];omega) S4.out ?_;intro v2 w5 o5 g5 ly;have O5:=hid o5;have G5:=hid g5;have L5:=hid ly;clear o5 g5 ly))
    clear n0 n1 n2 n3 n4 n5 e5
    obtain ⟨c5,gr5,_⟩:=OIn.c5 rfl PQ.out II.out.ow II.out.gr AP.out G4.out C4.out F3.out F4.out G5.out
    have C5:=hid c5
    have c8:w5.cell? ⟨p,8,none⟩=some (.int .i64 (kr.2:Nat)):=c5.ck.c8
    have GR:=hid gr5
    clear c5 gr5
    go_wp2_with fail
    go_returns
    exact ⟨by rw [← FF.out];rfl,by rw [← FF.out];exact ofE (C5.out.sub (fun g s _=>s.1)) (F1.out.trans F3.out II.out.gr.size) (F2.out.trans F4.out II.out.gr.size),GR.out⟩
   ·rw [show fO kr=none from if_neg qk] at KC
    have C2:=hid (show chkL t.kids [] ls.reverse false nm true ts=(match chkL t.kids [] ls.reverse false nm (decide (i+1=0)) (ts.drop (i+1)) with | .inl l2=>.inl ((l ++ [kr.1]) ++ l2) | .inr f=>.inr f) from by
     rw [II.out.cr,CR.out,if_neg qk]
     show _=(match chkL t.kids [] ls.reverse false nm false (ts.drop (i+1)) with | .inl l2=>Sum.inl ((l ++ [kr.1]) ++ l2) | .inr f=>Sum.inr f)
     cases chkL t.kids [] ls.reverse false nm false (ts.drop (i+1)) with
     | inl a=>simp
     | inr a=>rfl)
    clear qk
    go_upto_region 8 with (first | (go_at_call 30;(with_reducible refine Calls.mono KC.out ?_);rintro e w4 ⟨rfl,h4,g4⟩;obtain ⟨la2,lc2,ka2,kc2,c4,f3,f4⟩:=h4;have C4:=hid c4;have F3:=hid f3;have F4:=hid f4;have G4:=hid g4;have OW:=hid ((II.out.ow.gr g4 (by have:=PQ.out;omega)).below ((Below.refl _ _).alloc (Nat.le_refl _) (.cells #[.int .i64 kr.1] 3)));have S4:=hid (show w.heap.size+1≤(w4.alloc (.cells #[.int .i64 kr.1] 3)).heap.size from by have:=SZ.out;have:=g4.size;simp;omega);clear c4 f3 f4 g4) | (at_builtin;refine wpList_append_sa 66 3 (.int .i64 0) 8 Tryd.underlying66 intInfo11 rfl (by decide) rfl (.tmp 26) (.tmp 34) rfl (w.heap.size+1) _ (ivs l) rfl OW.out (some ⟨w4.heap.size,0,none⟩) 1 1 [.int .i64 kr.1] rfl (sl_new w4 (.int .i64 kr.1) 3 rfl) (by have:=LI.out;rw [ivs_len];omega) S4.out ?_;intro v2 w5 o5 g5 ly;have O5:=hid o5;have G5:=hid g5;have L5:=hid ly;clear o5 g5 ly))
    clear n0 n1 n2 n3 n4 n5 e5
    have NI:=hid (OIn.on rfl PQ.out HT.out II.out.nd II.out.bx II.out.ow II.out.gr II.out.ln F1.out F2.out AP.out G4.out C4.out F3.out F4.out O5.out G5.out L5.out C2.out)
    obtain ⟨c5,gr5,_⟩:=OIn.c5 rfl PQ.out II.out.ow II.out.gr AP.out G4.out C4.out F3.out F4.out G5.out
    have c8:w5.cell? ⟨p,8,none⟩=some (.int .i64 (-1)):=c5.ck.c8
    clear c5 gr5
    go_wp2_with fail
    go_roundg (ts.length - (i+1))
    case measure=>omega
    case rel=>exact ⟨i+1,l ++ [kr.1],by omega,rfl,by rw [Int.natCast_add];rfl,NI.out⟩
  ·have qi':¬ (i:Int)<(ts.length:Int):=by omega
   have CF:=hid (show chkL t.kids [] ls.reverse false nm true ts=.inl l from by rw [II.out.cr,List.drop_eq_nil_of_le (by omega),chkL];simp)
   have RF:=hid (show (if nodeK t.kids [] ls.reverse ⟨#[110,97,109,101]⟩ nm kd l=0 then (0,pl) else (nodeK t.kids [] ls.reverse ⟨#[110,97,109,101]⟩ nm kd l,0))=R from by rw [← RH.out,CF.out])
   have LE:l.length=0:=by have:=II.out.ln;have:=HL.out;omega
   obtain rfl:l=[]:=List.length_eq_zero_iff.1 LE
   obtain ⟨la1,lc1,ka1,kc1,c1,f1,f2,ap⟩:=II.out.cq
   have BX:=hid II.out.bx
   have C1:=hid c1
   have F1:=hid f1
   have F2:=hid f2
   have G1:=hid II.out.gr
   clear c1 f1 f2 ap CF LE II
   obtain ⟨x0,x1,x2,x3,x4,x5,xz⟩:=BX.out
   have ND:nodeK t.kids [] ls.reverse ⟨#[110,97,109,101]⟩ nm kd []=namK t.kids [] ls.reverse nm:=rfl
   rw [ND] at RF
   clear ND
   have HG:=hid hg
   have HN:=hid hn
   have LB:(ls.length:Int)≤100:=by have:=LS.out;omega
   have TB:(t.kids.length:Int)≤10000:=by omega
   obtain ⟨ta,tc,rfl⟩:=C1.out.nd.lenY
   have c6:=C1.out.ck.c6
   have hw:IntKind.i64.wrap ((ls.length:Int) - 1)=(ls.length:Int) - 1:=by go_arith
   clear hg hn
   go_upto_region 15 with fail
   clear hw c6
   clear x0 x2 x3 x4 x5 xz x1
   obtain ⟨wo,ewo⟩:∃ x,x=wr:=⟨_,rfl⟩
   subst ewo
   go_loopg [7] (ls.length) (fun g iv wq=>∃ i:Nat,i≤ls.length∧i=g∧iv=.int .i64 (pre i)∧Hid (Below wo.heap.size wo wq)∧Hid (∀ (j:Nat) (x:ByteArray),i≤j→ls[j]?=some x→eqB x nm=false))
   case atStart=>exact ⟨ls.length,Nat.le_refl _,rfl,congrArg _ (pre_len _),Below.refl _ _,fun j x hj hx=>absurd (lt_of_some hx) (by omega)⟩
   case round =>
    obtain ⟨i9,hi9,rfl,hv,B2,NN⟩:=hrel
    have C2:=hid (C1.out.next B2.out)
    have G2:=hid (G1.out.below B2.out)
    have BX2:=hid (BX.out.next B2.out)
    cases i9 with
    | succ j =>
     have hv:_=Value.int .i64 ((j:Nat):Int):=hv
     subst hv
     have jl:j<ls.length:=by omega
     obtain ⟨x,hx⟩:∃ x,ls[j]?=some x:=⟨_,List.getElem?_eq_getElem jl⟩
     obtain ⟨b,o8,ea,hc⟩:=C2.out.rl.at (by omega)
     subst ea
     have cl:wr.cell? ⟨b,o8+j,none⟩=some (.string x):=hc j _ (by simp [sv,hx])
     have c6:=C2.out.ck.c6
     have x1:=BX2.out.c1
     have z0:(0:Int)≤(j:Int):=by omega
     have jl':(j:Int)<(ls.length:Int):=by omega
     have jw:IntKind.i64.wrap ((j:Int) - 1)=(j:Int) - 1:=by go_arith
     cases y:eqB x nm with
     | true =>
      have z:(x.toList==nm.toList)=true:=(eqB_is _ _).trans y
      obtain ⟨b2,o2,eb,hc2⟩:=C2.out.rk.at (by omega)
      subst eb
      have ck:wr.cell? ⟨b2,o2+j,none⟩=some (.int .i64 3):=hc2 j _ (by simp [thr,List.getElem?_replicate,jl])
      have c7:=C2.out.ck.c7
      have FF:=hid (show ((3:Int),0)=R from by
       have e:namK t.kids [] ls.reverse nm=3:=by unfold namK;exact if_pos (cnt_some hx y)
       rw [← RF.out,e]
       rfl)
      have FN:=hid (show fO ((3:Int),0)=none from rfl)
      clear y hx hc hc2
      go_upto_region 17 with fail
      go_quiet (fail)
      have BQ:=hid (drewN_below wr nq)
      go_wp2_with fail
      go_returns
      exact ⟨by rw [← FF.out];rfl,by rw [← FF.out,FN.out];exact ofE ((C2.out.next BQ.out).sub (fun g s _=>s.1)) F1.out F2.out,G2.out.below BQ.out⟩
     | false =>
      have z:(x.toList==nm.toList)=false:=(eqB_is _ _).trans y
      have N2:=hid (show ∀ (i:Nat) (x:ByteArray),j≤i→ls[i]?=some x→eqB x nm=false from fun i u hi hu=>by
       rcases Nat.eq_or_lt_of_le hi with e | e
       ·subst e
        rw [hx] at hu
        injection hu with hu
        rw [← hu]
        exact y
       ·exact NN.out i u e hu)
      clear y hx hc NN
      go_upto_region 17 with fail
      go_quiet (fail)
      have BQ:=hid (drewN_below wr nq)
      go_wp2_with fail
      go_roundg (j)
      case measure=>omega
      case rel=>exact ⟨j,by omega,rfl,congrArg _ (pre_len j),nextB B2.out BQ.out,N2.out⟩
    | zero =>
     have hv:_=Value.int .i64 (-1):=hv
     subst hv
     have RF2:=hid (show (if (((valK t.kids nm).getD 0:Nat):Int)=0 then ((0:Int),pl) else ((((valK t.kids nm).getD 0:Nat):Int),0))=R from by
      have e:namK t.kids [] ls.reverse nm=(((valK t.kids nm).getD 0:Nat):Int):=by
       unfold namK
       rw [if_neg (by rw [cnt_none NN.out];omega)]
       rfl
      rw [← RF.out,e])
     have c5:=C2.out.ck.c5
     clear NN RF
     go_upto_region 20 with fail
     clear c5
     obtain ⟨wq,ewq⟩:∃ x,x=wr:=⟨_,rfl⟩
     subst ewq
     go_loopg [8,9] (t.kids.length) (fun g iv dv wp=>∃ i:Nat,i≤t.kids.length∧g=t.kids.length - i∧iv=.int .i64 (i:Nat)∧Hid (Below wo.heap.size wo wp)∧Hid (valK (t.kids.drop i) nm=valK t.kids nm))
     case atStart=>exact ⟨0,Nat.zero_le _,rfl,rfl,B2.out,rfl⟩
     case round =>
      obtain ⟨i8,hi8,rfl,rfl,B4,VV⟩:=hrel
      have C4:=hid (C1.out.next B4.out)
      have G4:=hid (G1.out.below B4.out)
      have BX4:=hid (BX.out.next B4.out)
      have c5:=C4.out.ck.c5
      have x1:=BX4.out.c1
      by_cases q8:i8<t.kids.length
      ·have q8':(i8:Int)<(t.kids.length:Int):=by omega
       obtain ⟨k,hk⟩:∃ k,t.kids[i8]?=some k:=⟨_,List.getElem?_eq_getElem q8⟩
       obtain ⟨g,c,s3,ea,nc,nk⟩:=C4.out.nd.atY i8 k hk
       obtain ⟨ka8,km8,kc8,rfl⟩:=nk.slice
       injection ea with ea _ ec
       subst ea ec
       obtain ⟨n0,n1,n2,n3,n4,n5⟩:=nc
       obtain ⟨gv,gk⟩:=gd_val (HG.out k (List.mem_iff_getElem?.2 ⟨i8,hk⟩))
       have VC:=hid (show (if (isVal k.op && eqB k.name nm)=true then some k.kind else valK (t.kids.drop (i8+1)) nm)=valK t.kids nm from by
        rw [← VV.out,List.drop_eq_getElem_cons q8,val_cons]
        rw [List.getElem?_eq_getElem q8] at hk
        injection hk with hk
        rw [hk])
       rw [gv] at VC
       have GK:=hid gk
       have B5:=hid (show Below wr.heap.size wr (wr.alloc (.cells #[.string k.op,.string k.name,.int .i64 (k.kind:Nat),.int .i64 k.n,.int .i64 (k.pl:Nat),.slice ka8 km8 kc8] 29)) from (Below.refl _ _).alloc (Nat.le_refl _) _)
       have X5:=hid (B6.new wr 29 (.string k.op) (.string k.name) (.int .i64 (k.kind:Nat)) (.int .i64 k.n) (.int .i64 (k.pl:Nat)) (.slice ka8 km8 kc8))
       have BX5:=hid (BX4.out.next B5.out)
       have ZB5:=hid (nextB B4.out B5.out)
       clear nk hk gv gk VV x1
       go_upto_region 23 with fail
       clear n0 n1 n2 n3 n4 n5 c5
       generalize World.alloc wr _=wn at *
       generalize wr.heap.size=xb at *
       have x1:=BX5.out.c1
       obtain ⟨y0,y1,y2,y3,y4,y5,yz⟩:=X5.out
       cases yn:eqB k.name nm with
       | false =>
        have z:(k.name.toList==nm.toList)=false:=(eqB_is _ _).trans yn
        have V2:=hid (show valK (t.kids.drop (i8+1)) nm=valK t.kids nm from by rw [← VC.out,yn];simp)
        clear yn
        go_wp2_with fail
        go_roundg (t.kids.length - (i8+1))
        case measure=>omega
        case rel=>exact ⟨i8+1,by omega,rfl,by rw [Int.natCast_add];rfl,ZB5.out,V2.out⟩
       | true =>
        have z:(k.name.toList==nm.toList)=true:=(eqB_is _ _).trans yn
        cases yt:eqB k.op ⟨#[116,97,98,108,101]⟩ with
        | true =>
         have zt:(k.op.toList==[116,97,98,108,101])=true:=(eqL _ _).trans yt
         have zu:(k.op.toList != [116,97,98,108,101])=false:=by unfold bne;rw [zt];rfl
         have V2:=hid (show valK (t.kids.drop (i8+1)) nm=valK t.kids nm from by rw [← VC.out,yt];simp)
         clear yn yt
         go_wp2_with fail
         go_roundg (t.kids.length - (i8+1))
         case measure=>omega
         case rel=>exact ⟨i8+1,by omega,rfl,by rw [Int.natCast_add];rfl,ZB5.out,V2.out⟩
        | false =>
         have zt:(k.op.toList==[116,97,98,108,101])=false:=(eqL _ _).trans yt
         have zu:(k.op.toList != [116,97,98,108,101])=true:=by unfold bne;rw [zt];rfl
         have FF:=hid (show (((k.kind:Nat):Int),0)=R from by
          have e:valK t.kids nm=some k.kind:=by rw [← VC.out,yt,yn];rfl
          rw [← RF2.out,e]
          show _=(if ((k.kind:Nat):Int)=0 then ((0:Int),pl) else (((k.kind:Nat):Int),0))
          rw [if_neg (by have:=GK.out;omega)])
         have FN:=hid (show fO (((k.kind:Nat):Int),0)=none from if_neg (by show ¬ ((k.kind:Nat):Int)=0;have:=GK.out;omega))
         clear yn yt
         go_wp2_with fail
         go_returns
         exact ⟨by rw [← FF.out];rfl,by rw [← FF.out,FN.out];exact ofE ((C1.out.next ZB5.out).sub (fun g s _=>s.1)) F1.out F2.out,G1.out.below ZB5.out⟩
      ·have q8':¬ (i8:Int)<(t.kids.length:Int):=by omega
       have FF:=hid (show ((0:Int),pl)=R from by
        have e:valK t.kids nm=none:=by rw [← VV.out,List.drop_eq_nil_of_le (by omega)];rfl
        rw [← RF2.out,e]
        rfl)
       obtain ⟨x0,_,x2,x3,x4,x5,xz⟩:=BX4.out
       have FC:=hid (fail11_any C4.out.ck (.nd ⟨#[110,97,109,101]⟩ nm kd n pl ts) (.slice sa ts.length sc) rfl)
       simp only [tr_op9,tr_name9,tr_kind9,tr_n9,tr_pl9,Option.getD_none] at FC
       go_wp2_with (go_at_call 48;(with_reducible refine Calls.mono FC.out ?_);rintro e w9 ⟨rfl,c9,g9⟩;have C9:=hid c9;have G9:=hid g9;clear c9 g9)
       go_returns
       exact ⟨by rw [← FF.out];rfl,by rw [← FF.out];exact ofE ((C4.out.bad (fun g s=>HS.out g s.1) C9.out G9.out).sub (fun g s _=>s.1)) F1.out F2.out,G4.out.trans G9.out⟩
set_option maxRecDepth 100000 in
set_option maxHeartbeats 8000000 in
theorem of_at (p:Nat) (t:Tr) (sl:Value) (ls:List ByteArray) (hls:ls.length≤100) (nm:ByteArray) (kd:Nat) (n:Int) (pl:Nat) (hg:∀ k,k ∈ t.kids→GD k) (hn:t.kids.length≤10000) (ts:List Tr) (hl:ts.length=1) (hk:∀ (i:Nat) (k:Tr),ts[i]?=some k→OfC p t sl ls k):OfC p t sl ls (.nd ⟨#[97,116]⟩ nm kd n pl ts):=by
 intro S S2 w la lc ka kc v hS hS2 h hd
 unfold OfP
 simp only [tr_op9,tr_name9,tr_kind9,tr_n9,tr_pl9,tr_kids9] at hd ⊢
 obtain ⟨sa,sc,rfl⟩:=hd.lenY
 have B1:=hid (show Below w.heap.size w (w.alloc (.cells #[.string ⟨#[97,116]⟩,.string nm,.int .i64 (kd:Nat),.int .i64 n,.int .i64 (pl:Nat),.slice sa ts.length sc] 29)) from (Below.refl _ _).alloc (Nat.le_refl _) _)
 have X1:=hid (B6.new w 29 (.string ⟨#[97,116]⟩) (.string nm) (.int .i64 (kd:Nat)) (.int .i64 n) (.int .i64 (pl:Nat)) (.slice sa ts.length sc))
 have PQ:=hid h.ck.pl
 have HS:=hid hS
 have HT:=hid hS2
 have HK:=hid hk
 have HL:=hid hl
 have LS:=hid hls
 obtain ⟨R,hR⟩:∃ R,chk t.kids [] ls.reverse (.nd ⟨#[97,116]⟩ nm kd n pl ts)=R:=⟨_,rfl⟩
 have RH:=hid (show (match chkL t.kids [] ls.reverse false nm true ts with
  | .inr f=>((0:Int),f)
  | .inl l=>if nodeK t.kids [] ls.reverse ⟨#[97,116]⟩ nm kd l=0 then (0,pl) else (nodeK t.kids [] ls.reverse ⟨#[97,116]⟩ nm kd l,0))=R from by rw [← hR,chk,show eqB ⟨#[97,116]⟩ ⟨#[115,117,109]⟩=false from rfl];cases chkL t.kids [] ls.reverse false nm true ts <;> rfl)
 have KL9:(ts.length:Int)≤3:=by omega
 have I0:=hid (show OIn w (w.alloc (.cells #[.string ⟨#[97,116]⟩,.string nm,.int .i64 (kd:Nat),.int .i64 n,.int .i64 (pl:Nat),.slice sa ts.length sc] 29)) p w.heap.size S S2 t sl ls la ka ⟨#[97,116]⟩ nm kd n pl (.slice sa ts.length sc) ts 0 [] (.slice none 0 0) from
  ⟨⟨la,lc,ka,kc,h.keep (S':=fun g=>S g∧g<w.heap.size) B1.out.size (B1.out.block _ h.ck.pl) (fun x e=>B1.out.block _ (h.nl x e).2) (fun x e=>B1.out.block _ (h.nk x e).2) (fun g s l=>⟨⟨s,l⟩,B1.out.block g l⟩),Fr.refl _ _,Fr.refl _ _,fun g e=>by cases e⟩,hd.keep (S':=fun g=>S2 g∧g<w.heap.size) (fun g s l=>⟨⟨s,l⟩,B1.out.block g l⟩),X1.out,Ow.nil _ _ _,(Gr.refl w p).below B1.out,rfl,by
   rw [List.drop_zero]
   show chkL t.kids [] ls.reverse false nm true ts=(match chkL t.kids [] ls.reverse false nm true ts with | .inl l2=>Sum.inl ([] ++ l2) | .inr f=>Sum.inr f)
   cases chkL t.kids [] ls.reverse false nm true ts <;> rfl⟩)
 rw [hR]
 clear h hd hS hS2 hk hR hls hl B1 X1
 go_enter Tryd.func30,Tryd.ntmps30
 go_upto_region 1 with fail
 generalize World.alloc w _=w1 at *
 have e0:=I0.out.bx.c0
 go_wp2_with fail
 clear e0
 go_loopg [6,5] (ts.length) (fun g iv kv wr=>∃ (i:Nat) (l:List Int),i≤ts.length∧g=ts.length - i∧iv=.int .i64 (i:Nat)∧Hid (OIn w wr p w.heap.size S S2 t sl ls la ka ⟨#[97,116]⟩ nm kd n pl (.slice sa ts.length sc) ts i l kv))
 case atStart=>exact ⟨0,[],Nat.zero_le _,rfl,rfl,I0.out⟩
 case round =>
  obtain ⟨i,l,hi,rfl,rfl,II⟩:=hrel
  clear I0
  by_cases qi:i<ts.length
  ·have qi':(i:Int)<(ts.length:Int):=by omega
   obtain ⟨k,hk⟩:∃ k,ts[i]?=some k:=⟨_,List.getElem?_eq_getElem qi⟩
   obtain ⟨g,c,s3,ea,nc,nk⟩:=II.out.nd.atY i k hk
   obtain ⟨ka9,km9,kc9,rfl⟩:=nk.slice
   injection ea with ea _ ec
   subst ea ec
   obtain ⟨la1,lc1,ka1,kc1,c1,f1,f2,ap⟩:=II.out.cq
   have KC:=hid (HK.out i k hk _ _ wr la1 lc1 ka1 kc1 _ (fun g s=>HS.out g s.1) (fun g s=>HT.out g s.1) c1 nk)
   unfold OfP at KC
   have CR:=hid (cr_nx (ks:=t.kids) (be:=[]) (loc:=ls.reverse) (s:=false) (nm:=nm) hk)
   have EV:(if (false && decide (0<i))=true then nm :: ls.reverse else ls.reverse)=ls.reverse:=by simp
   rw [EV] at CR
   have SZ:=hid (show w.heap.size+1≤wr.heap.size from II.out.bx.lt)
   have LI:=hid (show l.length≤3 from by have:=II.out.ln;have:=HL.out;omega)
   have AP:=hid ap
   have F1:=hid f1
   have F2:=hid f2
   obtain ⟨n0,n1,n2,n3,n4,n5⟩:=nc
   have e5:=II.out.bx.c5
   clear nk hk c1 ap f1 f2 EV
   generalize chk t.kids [] ls.reverse k=kr at *
   by_cases qk:kr.1=0
   ·rw [show fO kr=some kr.2 from if_pos qk] at KC
    have FF:=hid (show (0,kr.2)=R from by rw [← RH.out,II.out.cr,CR.out,if_pos qk])
    have zk:(0:Int)≤(kr.2:Int):=by omega
    clear qk
    go_upto_region 8 with (first | (go_at_call 30;(with_reducible refine Calls.mono KC.out ?_);rintro e w4 ⟨rfl,h4,g4⟩;obtain ⟨la2,lc2,ka2,kc2,c4,f3,f4⟩:=h4;have C4:=hid c4;have F3:=hid f3;have F4:=hid f4;have G4:=hid g4;have OW:=hid ((II.out.ow.gr g4 (by have:=PQ.out;omega)).below ((Below.refl _ _).alloc (Nat.le_refl _) (.cells #[.int .i64 kr.1] 3)));have S4:=hid (show w.heap.size+1≤(w4.alloc (.cells #[.int .i64 kr.1] 3)).heap.size from by have:=SZ.out;have:=g4.size;simp;omega);clear c4 f3 f4 g4) | (at_builtin;refine wpList_append_sa 66 3 (.int .i64 0) 8 Tryd.underlying66 intInfo11 rfl (by decide) rfl (.tmp 26) (.tmp 34) rfl (w.heap.size+1) _ (ivs l) rfl OW.out (some ⟨w4.heap.size,0,none⟩) 1 1 [.int .i64 kr.1] rfl (sl_new w4 (.int .i64 kr.1) 3 rfl) (by have:=LI.out;rw [ivs_len];omega) S4.out ?_;intro v2 w5 o5 g5 ly;have O5:=hid o5;have G5:=hid g5;have L5:=hid ly;clear o5 g5 ly))
    clear n0 n1 n2 n3 n4 n5 e5
    obtain ⟨c5,gr5,_⟩:=OIn.c5 rfl PQ.out II.out.ow II.out.gr AP.out G4.out C4.out F3.out F4.out G5.out
    have C5:=hid c5
    have c8:w5.cell? ⟨p,8,none⟩=some (.int .i64 (kr.2:Nat)):=c5.ck.c8
    have GR:=hid gr5
    clear c5 gr5
    go_wp2_with fail
    go_returns
    exact ⟨by rw [← FF.out];rfl,by rw [← FF.out];exact ofE (C5.out.sub (fun g s _=>s.1)) (F1.out.trans F3.out II.out.gr.size) (F2.out.trans F4.out II.out.gr.size),GR.out⟩
   ·rw [show fO kr=none from if_neg qk] at KC
    have C2:=hid (show chkL t.kids [] ls.reverse false nm true ts=(match chkL t.kids [] ls.reverse false nm (decide (i+1=0)) (ts.drop (i+1)) with | .inl l2=>.inl ((l ++ [kr.1]) ++ l2) | .inr f=>.inr f) from by
     rw [II.out.cr,CR.out,if_neg qk]
     show _=(match chkL t.kids [] ls.reverse false nm false (ts.drop (i+1)) with | .inl l2=>Sum.inl ((l ++ [kr.1]) ++ l2) | .inr f=>Sum.inr f)
     cases chkL t.kids [] ls.reverse false nm false (ts.drop (i+1)) with
     | inl a=>simp
     | inr a=>rfl)
    clear qk
    go_upto_region 8 with (first | (go_at_call 30;(with_reducible refine Calls.mono KC.out ?_);rintro e w4 ⟨rfl,h4,g4⟩;obtain ⟨la2,lc2,ka2,kc2,c4,f3,f4⟩:=h4;have C4:=hid c4;have F3:=hid f3;have F4:=hid f4;have G4:=hid g4;have OW:=hid ((II.out.ow.gr g4 (by have:=PQ.out;omega)).below ((Below.refl _ _).alloc (Nat.le_refl _) (.cells #[.int .i64 kr.1] 3)));have S4:=hid (show w.heap.size+1≤(w4.alloc (.cells #[.int .i64 kr.1] 3)).heap.size from by have:=SZ.out;have:=g4.size;simp;omega);clear c4 f3 f4 g4) | (at_builtin;refine wpList_append_sa 66 3 (.int .i64 0) 8 Tryd.underlying66 intInfo11 rfl (by decide) rfl (.tmp 26) (.tmp 34) rfl (w.heap.size+1) _ (ivs l) rfl OW.out (some ⟨w4.heap.size,0,none⟩) 1 1 [.int .i64 kr.1] rfl (sl_new w4 (.int .i64 kr.1) 3 rfl) (by have:=LI.out;rw [ivs_len];omega) S4.out ?_;intro v2 w5 o5 g5 ly;have O5:=hid o5;have G5:=hid g5;have L5:=hid ly;clear o5 g5 ly))
    clear n0 n1 n2 n3 n4 n5 e5
    have NI:=hid (OIn.on rfl PQ.out HT.out II.out.nd II.out.bx II.out.ow II.out.gr II.out.ln F1.out F2.out AP.out G4.out C4.out F3.out F4.out O5.out G5.out L5.out C2.out)
    obtain ⟨c5,gr5,_⟩:=OIn.c5 rfl PQ.out II.out.ow II.out.gr AP.out G4.out C4.out F3.out F4.out G5.out
    have c8:w5.cell? ⟨p,8,none⟩=some (.int .i64 (-1)):=c5.ck.c8
    clear c5 gr5
    go_wp2_with fail
    go_roundg (ts.length - (i+1))
    case measure=>omega
    case rel=>exact ⟨i+1,l ++ [kr.1],by omega,rfl,by rw [Int.natCast_add];rfl,NI.out⟩
  ·have qi':¬ (i:Int)<(ts.length:Int):=by omega
   have CF:=hid (show chkL t.kids [] ls.reverse false nm true ts=.inl l from by rw [II.out.cr,List.drop_eq_nil_of_le (by omega),chkL];simp)
   have RF:=hid (show (if nodeK t.kids [] ls.reverse ⟨#[97,116]⟩ nm kd l=0 then (0,pl) else (nodeK t.kids [] ls.reverse ⟨#[97,116]⟩ nm kd l,0))=R from by rw [← RH.out,CF.out])
   have LE:l.length=1:=by have:=II.out.ln;have:=HL.out;omega
   obtain ⟨a,rfl⟩:∃ a,l=[a]:=by match l,LE with | [a],_=>exact ⟨_,rfl⟩
   obtain ⟨r,rc,rfl,k0⟩:=Ow.c1 (show Ow wr 3 (w.heap.size+1) _ [.int .i64 a] from II.out.ow)
   obtain ⟨la1,lc1,ka1,kc1,c1,f1,f2,ap⟩:=II.out.cq
   have BX:=hid II.out.bx
   have C1:=hid c1
   have F1:=hid f1
   have F2:=hid f2
   have G1:=hid II.out.gr
   clear c1 f1 f2 ap CF LE II
   obtain ⟨x0,x1,x2,x3,x4,x5,xz⟩:=BX.out
   have ND:nodeK t.kids [] ls.reverse ⟨#[97,116]⟩ nm kd [a]=tabV t.kids nm a:=rfl
   rw [ND] at RF
   clear ND
   have HG:=hid hg
   have HN:=hid hn
   clear hg hn
   obtain ⟨ta,tc,rfl⟩:=C1.out.nd.lenY
   have RF2:=hid (show (if onl ((dcl t.kids ⟨#[116,97,98,108,101]⟩ nm).isSome && (a==((dcl t.kids ⟨#[116,97,98,108,101]⟩ nm).getD Tr.zero).n)) (((dcl t.kids ⟨#[116,97,98,108,101]⟩ nm).getD Tr.zero).kind:Nat)=0 then ((0:Int),pl) else (onl ((dcl t.kids ⟨#[116,97,98,108,101]⟩ nm).isSome && (a==((dcl t.kids ⟨#[116,97,98,108,101]⟩ nm).getD Tr.zero).n)) (((dcl t.kids ⟨#[116,97,98,108,101]⟩ nm).getD Tr.zero).kind:Nat),0))=R from by
    have e:tabV t.kids nm a=onl ((dcl t.kids ⟨#[116,97,98,108,101]⟩ nm).isSome && (a==((dcl t.kids ⟨#[116,97,98,108,101]⟩ nm).getD Tr.zero).n)) (((dcl t.kids ⟨#[116,97,98,108,101]⟩ nm).getD Tr.zero).kind:Nat):=by
     unfold tabV
     rw [show tabK t.kids nm=(dcl t.kids ⟨#[116,97,98,108,101]⟩ nm) from rfl]
     cases (dcl t.kids ⟨#[116,97,98,108,101]⟩ nm) <;> rfl
    rw [← RF.out,e])
   have KZ:=hid (show (dcl t.kids ⟨#[116,97,98,108,101]⟩ nm).isSome=true→1≤((dcl t.kids ⟨#[116,97,98,108,101]⟩ nm).getD Tr.zero).kind from fun h=>by
    cases hq:(dcl t.kids ⟨#[116,97,98,108,101]⟩ nm) with
    | none=>rw [hq] at h;cases h
    | some k=>exact (gd_val (HG.out k (List.mem_of_find?_eq_some hq))).2)
   have DC:=hid (fun (W:World) (b:Below wr.heap.size wr W)=>decl11_any t ⟨#[116,97,98,108,101]⟩ nm W _ _ HN.out (C1.out.nd.gwY b))
   unfold DcP at DC
   clear RF
   generalize (dcl t.kids ⟨#[116,97,98,108,101]⟩ nm).isSome=tb at *
   generalize (dcl t.kids ⟨#[116,97,98,108,101]⟩ nm).getD Tr.zero=X at *
   go_upto_region 27 with fail
   have RL:=hid (show r<wr.heap.size from World.block_lt_of_cell? _ _ k0)
   refine wp_region_held_drew (S:=fun W=>Below wr.heap.size wr W) (by kernel_rfl) (Below.refl _ _).drew (fun hHeld=>?_)
   refine take2 rfl (i:=0) (v:=.pointer (some ⟨p,0,none⟩)) (d:=112) rfl rfl (by kernel_rfl) (by kernel_rfl) (by kernel_rfl) (fun _ _ _ h=>h) (Or.inl ⟨by rfl,?_⟩) hHeld ?_
   ·(intro W hW;(try dsimp only at hW);go_simp)
   try simp only [Act.put,List.setIfInBounds_toArray,List.set_cons_zero,List.set_cons_succ]
   refine take2 rfl (i:=1) (v:=.pointer (some ⟨p,0,none⟩)) (d:=113) rfl rfl (by kernel_rfl) (by kernel_rfl) (by kernel_rfl) (fun _ _ _ h=>h) (Or.inl ⟨by rfl,?_⟩) hHeld ?_
   ·(intro W hW;(try dsimp only at hW);go_simp)
   try simp only [Act.put,List.setIfInBounds_toArray,List.set_cons_zero,List.set_cons_succ]
   refine take2 rfl (i:=2) (v:=.pointer (some ⟨p,0,none⟩)) (d:=114) rfl rfl (by kernel_rfl) (by kernel_rfl) (by kernel_rfl) (fun _ _ _ h=>h) (Or.inl ⟨by rfl,?_⟩) hHeld ?_
   ·(intro W hW;(try dsimp only at hW);go_simp)
   try simp only [Act.put,List.setIfInBounds_toArray,List.set_cons_zero,List.set_cons_succ]
   refine take2 rfl (i:=3) (v:=.agg #[.string t.op,.string t.name,.int .i64 (t.kind:Nat),.int .i64 t.n,.int .i64 (t.pl:Nat),.slice ta t.kids.length tc]) (d:=115) rfl rfl (by kernel_rfl) (by kernel_rfl) (by kernel_rfl) (fun _ _ _ h=>h) (Or.inl ⟨by rfl,?_⟩) hHeld ?_
   ·(intro W hW;(try dsimp only at hW);obtain ⟨c0,c1,c2,c3,c4,c5,_,_,_,_⟩:=C1.out.ck.next hW;go_simp)
   try simp only [Act.put,List.setIfInBounds_toArray,List.set_cons_zero,List.set_cons_succ]
   refine take2 rfl (i:=4) (v:=.pointer (some ⟨w.heap.size,1,none⟩)) (d:=116) rfl rfl (by kernel_rfl) (by kernel_rfl) (by kernel_rfl) (fun _ _ _ h=>h) (Or.inl ⟨by rfl,?_⟩) hHeld ?_
   ·(intro W hW;(try dsimp only at hW);go_simp)
   try simp only [Act.put,List.setIfInBounds_toArray,List.set_cons_zero,List.set_cons_succ]
   refine take2 rfl (i:=5) (v:=.string nm) (d:=117) rfl rfl (by kernel_rfl) (by kernel_rfl) (by kernel_rfl) (fun _ _ _ h=>h) (Or.inl ⟨by rfl,?_⟩) hHeld ?_
   ·(intro W hW;(try dsimp only at hW);have c1:=(BX.out.next hW).c1;go_simp)
   try simp only [Act.put,List.setIfInBounds_toArray,List.set_cons_zero,List.set_cons_succ]
   have BZ:=hid (show Below wr.heap.size wr wr.drew from (Below.refl _ _).drew)
   generalize wr.drew=wz at *
   clear x0 x1 x2 x3 x4 x5 xz
   refine wpAnyH_ready (rs:=[6,10]) (by kernel_rfl) (by simp) ?_
   refine cons22 rfl rfl rfl (fun K9 hK=>?_) (fun K9 hK=>?_)
   ·go_simp
    refine Calls.mono (DC.out _ BZ.out) ?_
    rintro e w2 hD
    obtain ⟨b2,da,dm,dc,rfl,nd2⟩:=hD
    have B2:=hid (nextB BZ.out b2)
    clear b2 nd2
    go_wp2_with fail
    refine hK.out _ _ B2.out (fun hX=>?_)
    clear hK K9 hHeld
    have hHeld:=hX
    clear hX
    try simp only [Act.put,List.setIfInBounds_toArray,List.set_cons_zero,List.set_cons_succ]
    refine take2 rfl (i:=7) (v:=.tuple #[.agg #[.string X.op,.string X.name,.int .i64 (X.kind:Nat),.int .i64 X.n,.int .i64 (X.pl:Nat),.slice da dm dc],.bool tb]) (d:=111) rfl rfl (by kernel_rfl) (by kernel_rfl) (by kernel_rfl) (fun _ _ _ h=>h) (Or.inl ⟨by rfl,?_⟩) hHeld ?_
    ·(intro W hW;(try dsimp only at hW);go_simp)
    try simp only [Act.put,List.setIfInBounds_toArray,List.set_cons_zero,List.set_cons_succ]
    refine take2 rfl (i:=8) (v:=.agg #[.string X.op,.string X.name,.int .i64 (X.kind:Nat),.int .i64 X.n,.int .i64 (X.pl:Nat),.slice da dm dc]) (d:=119) rfl rfl (by kernel_rfl) (by kernel_rfl) (by kernel_rfl) (fun _ _ _ h=>h) (Or.inl ⟨by rfl,?_⟩) hHeld ?_
    ·(intro W hW;(try dsimp only at hW);go_simp)
    try simp only [Act.put,List.setIfInBounds_toArray,List.set_cons_zero,List.set_cons_succ]
    refine take2 rfl (i:=9) (v:=.bool tb) (d:=120) rfl rfl (by kernel_rfl) (by kernel_rfl) (by kernel_rfl) (fun _ _ _ h=>h) (Or.inl ⟨by rfl,?_⟩) hHeld ?_
    ·(intro W hW;(try dsimp only at hW);go_simp)
    try simp only [Act.put,List.setIfInBounds_toArray,List.set_cons_zero,List.set_cons_succ]
    have BA:=hid (nextB B2.out (show Below w2.heap.size w2 (w2.alloc (.cells #[.string ⟨#[]⟩,.string ⟨#[]⟩,.int .i64 0,.int .i64 0,.int .i64 0,.slice none 0 0] 29)) from (Below.refl _ _).alloc (Nat.le_refl _) _))
    have HB:=hid (B6.new w2 29 (.string ⟨#[]⟩) (.string ⟨#[]⟩) (.int .i64 0) (.int .i64 0) (.int .i64 0) (.slice none 0 0))
    have SZ:=hid B2.out.size
    refine wpAnyH_ready (rs:=[10]) (by kernel_rfl) (by simp) ?_
    refine cons2 rfl rfl (fun K9 hK=>?_)
    go_simp
    refine hK.out _ _ BA.out (fun hX=>?_)
    clear hK K9 hHeld
    have hHeld:=hX
    clear hX
    try simp only [Act.put,List.setIfInBounds_toArray,List.set_cons_zero,List.set_cons_succ]
    generalize World.alloc w2 _=w3 at *
    have BS:=hid (Below.put6Y BA.out (q:=w2.heap.size) SZ.out (.string X.op) (.string X.name) (.int .i64 (X.kind:Nat)) (.int .i64 X.n) (.int .i64 (X.pl:Nat)) (.slice da dm dc))
    have HS9:=hid (HB.out.sets (.string X.op) (.string X.name) (.int .i64 (X.kind:Nat)) (.int .i64 X.n) (.int .i64 (X.pl:Nat)) (.slice da dm dc))
    obtain ⟨h0,h1,h2,h3,h4,h5,hz⟩:=HB.out
    generalize w2.heap.size=rb at *
    refine wpAnyH_ready (rs:=[11]) (by kernel_rfl) (by simp) ?_
    refine cons2 rfl rfl (fun K9 hK=>?_)
    go_simp
    refine hK.out _ _ BS.out (fun hX=>?_)
    clear hK K9 hHeld
    have hHeld:=hX
    clear hX h0 h1 h2 h3 h4 h5 hz
    try simp only [Act.put,List.setIfInBounds_toArray,List.set_cons_zero,List.set_cons_succ]
    generalize World.setCell _ ⟨rb,5,none⟩ _=w4 at *
    refine take2 rfl (i:=12) (v:=.bool tb) (d:=11) rfl rfl (by kernel_rfl) (by kernel_rfl) (by kernel_rfl) (fun _ _ _ h=>h) (Or.inl ⟨by rfl,?_⟩) hHeld ?_
    ·(intro W hW;(try dsimp only at hW);go_simp)
    try simp only [Act.put,List.setIfInBounds_toArray,List.set_cons_zero,List.set_cons_succ]
    refine wpAnyH_done (by kernel_rfl) ?_ _
    have C4:=hid (C1.out.next BS.out)
    have G4:=hid (G1.out.below BS.out)
    have BX4:=hid (BX.out.next BS.out)
    have k4:=(World.cell?_of_block (a:=⟨r,0,none⟩) (BS.out.block r RL.out)).trans k0
    clear k0
    obtain ⟨x0,x1,x2,x3,x4,x5,xz⟩:=BX4.out
    obtain ⟨y0,y1,y2,y3,y4,y5,yz⟩:=HS9.out
    clear y0 y1 y4 y5 yz
    cases tb with
    | false =>
     have FF:=hid (show ((0:Int),pl)=R from by rw [← RF2.out];rfl)
     go_upto_region 28 with fail
     go_quiet (fail)
     have BQ:=hid (drewN_below w4 nq)
     have C5:=hid (C4.out.next BQ.out)
     have G5:=hid (G4.out.below BQ.out)
     have FC:=hid (fail11_any C5.out.ck (.nd ⟨#[97,116]⟩ nm kd n pl ts) (.slice sa ts.length sc) rfl)
     simp only [tr_op9,tr_name9,tr_kind9,tr_n9,tr_pl9,Option.getD_none] at FC
     go_wp2_with (go_at_call 48;(with_reducible refine Calls.mono FC.out ?_);rintro e w9 ⟨rfl,c9,g9⟩;have C9:=hid c9;have G9:=hid g9;clear c9 g9)
     go_returns
     exact ⟨by rw [← FF.out];rfl,by rw [← FF.out];exact ofE ((C5.out.bad (fun g s=>HS.out g s.1) C9.out G9.out).sub (fun g s _=>s.1)) F1.out F2.out,G5.out.trans G9.out⟩
    | true =>
     by_cases qa:a=X.n
     ·have z:(a != X.n)=false:=by simpa using qa
      have KK:=hid (KZ.out rfl)
      have e1:onl (true && (a==X.n)) ((X.kind:Nat):Int)=((X.kind:Nat):Int):=by rw [show (a==X.n)=true from by simpa using qa];rfl
      have FF:=hid (show (((X.kind:Nat):Int),0)=R from by rw [← RF2.out,e1,if_neg (by have:=KK.out;omega)])
      have FN:=hid (show fO (((X.kind:Nat):Int),0)=none from if_neg (by show ¬ ((X.kind:Nat):Int)=0;have:=KK.out;omega))
      clear qa e1
      go_upto_region 28 with fail
      go_quiet (fail)
      have BQ:=hid (drewN_below w4 nq)
      have C5:=hid (C4.out.next BQ.out)
      have G5:=hid (G4.out.below BQ.out)
      go_wp2_with fail
      go_returns
      exact ⟨by rw [← FF.out];rfl,by rw [← FF.out,FN.out];exact ofE (C5.out.sub (fun g s _=>s.1)) F1.out F2.out,G5.out⟩
     ·have z:(a != X.n)=true:=by simpa using qa
      have FF:=hid (show ((0:Int),pl)=R from by rw [← RF2.out,show (a==X.n)=false from beqI _ _ qa];rfl)
      clear qa
      go_upto_region 28 with fail
      go_quiet (fail)
      have BQ:=hid (drewN_below w4 nq)
      have C5:=hid (C4.out.next BQ.out)
      have G5:=hid (G4.out.below BQ.out)
      have FC:=hid (fail11_any C5.out.ck (.nd ⟨#[97,116]⟩ nm kd n pl ts) (.slice sa ts.length sc) rfl)
      simp only [tr_op9,tr_name9,tr_kind9,tr_n9,tr_pl9,Option.getD_none] at FC
      go_wp2_with (go_at_call 48;(with_reducible refine Calls.mono FC.out ?_);rintro e w9 ⟨rfl,c9,g9⟩;have C9:=hid c9;have G9:=hid g9;clear c9 g9)
      go_returns
      exact ⟨by rw [← FF.out];rfl,by rw [← FF.out];exact ofE ((C5.out.bad (fun g s=>HS.out g s.1) C9.out G9.out).sub (fun g s _=>s.1)) F1.out F2.out,G5.out.trans G9.out⟩
   ·have BA:=hid (nextB BZ.out (show Below wz.heap.size wz (wz.alloc (.cells #[.string ⟨#[]⟩,.string ⟨#[]⟩,.int .i64 0,.int .i64 0,.int .i64 0,.slice none 0 0] 29)) from (Below.refl _ _).alloc (Nat.le_refl _) _))
    have HB:=hid (B6.new wz 29 (.string ⟨#[]⟩) (.string ⟨#[]⟩) (.int .i64 0) (.int .i64 0) (.int .i64 0) (.slice none 0 0))
    have SZ:=hid BZ.out.size
    go_simp
    refine hK.out _ _ BA.out (fun hX=>?_)
    clear hK K9 hHeld
    have hHeld:=hX
    clear hX
    try simp only [Act.put,List.setIfInBounds_toArray,List.set_cons_zero,List.set_cons_succ]
    generalize World.alloc wz _=w3 at *
    generalize wz.heap.size=rq at *
    refine wpAnyH_ready (rs:=[6]) (by kernel_rfl) (by simp) ?_
    refine cons2 rfl rfl (fun K9 hK=>?_)
    go_simp
    refine Calls.mono (DC.out _ BA.out) ?_
    rintro e w2 hD
    obtain ⟨b2,da,dm,dc,rfl,nd2⟩:=hD
    replace HB:=hid (HB.out.next b2)
    replace BA:=hid (nextB BA.out b2)
    clear b2 nd2
    go_wp2_with fail
    refine hK.out _ _ BA.out (fun hX=>?_)
    clear hK K9 hHeld
    have hHeld:=hX
    clear hX
    try simp only [Act.put,List.setIfInBounds_toArray,List.set_cons_zero,List.set_cons_succ]
    refine take2 rfl (i:=7) (v:=.tuple #[.agg #[.string X.op,.string X.name,.int .i64 (X.kind:Nat),.int .i64 X.n,.int .i64 (X.pl:Nat),.slice da dm dc],.bool tb]) (d:=111) rfl rfl (by kernel_rfl) (by kernel_rfl) (by kernel_rfl) (fun _ _ _ h=>h) (Or.inl ⟨by rfl,?_⟩) hHeld ?_
    ·(intro W hW;(try dsimp only at hW);go_simp)
    try simp only [Act.put,List.setIfInBounds_toArray,List.set_cons_zero,List.set_cons_succ]
    refine take2 rfl (i:=8) (v:=.agg #[.string X.op,.string X.name,.int .i64 (X.kind:Nat),.int .i64 X.n,.int .i64 (X.pl:Nat),.slice da dm dc]) (d:=119) rfl rfl (by kernel_rfl) (by kernel_rfl) (by kernel_rfl) (fun _ _ _ h=>h) (Or.inl ⟨by rfl,?_⟩) hHeld ?_
    ·(intro W hW;(try dsimp only at hW);go_simp)
    try simp only [Act.put,List.setIfInBounds_toArray,List.set_cons_zero,List.set_cons_succ]
    refine take2 rfl (i:=9) (v:=.bool tb) (d:=120) rfl rfl (by kernel_rfl) (by kernel_rfl) (by kernel_rfl) (fun _ _ _ h=>h) (Or.inl ⟨by rfl,?_⟩) hHeld ?_
    ·(intro W hW;(try dsimp only at hW);go_simp)
    try simp only [Act.put,List.setIfInBounds_toArray,List.set_cons_zero,List.set_cons_succ]
    have BS:=hid (Below.put6Y BA.out (q:=rq) SZ.out (.string X.op) (.string X.name) (.int .i64 (X.kind:Nat)) (.int .i64 X.n) (.int .i64 (X.pl:Nat)) (.slice da dm dc))
    have HS9:=hid (HB.out.sets (.string X.op) (.string X.name) (.int .i64 (X.kind:Nat)) (.int .i64 X.n) (.int .i64 (X.pl:Nat)) (.slice da dm dc))
    obtain ⟨h0,h1,h2,h3,h4,h5,hz⟩:=HB.out
    generalize rq=rb at *
    refine wpAnyH_ready (rs:=[11]) (by kernel_rfl) (by simp) ?_
    refine cons2 rfl rfl (fun K9 hK=>?_)
    go_simp
    refine hK.out _ _ BS.out (fun hX=>?_)
    clear hK K9 hHeld
    have hHeld:=hX
    clear hX h0 h1 h2 h3 h4 h5 hz
    try simp only [Act.put,List.setIfInBounds_toArray,List.set_cons_zero,List.set_cons_succ]
    generalize World.setCell _ ⟨rb,5,none⟩ _=w4 at *
    refine take2 rfl (i:=12) (v:=.bool tb) (d:=11) rfl rfl (by kernel_rfl) (by kernel_rfl) (by kernel_rfl) (fun _ _ _ h=>h) (Or.inl ⟨by rfl,?_⟩) hHeld ?_
    ·(intro W hW;(try dsimp only at hW);go_simp)
    try simp only [Act.put,List.setIfInBounds_toArray,List.set_cons_zero,List.set_cons_succ]
    refine wpAnyH_done (by kernel_rfl) ?_ _
    have C4:=hid (C1.out.next BS.out)
    have G4:=hid (G1.out.below BS.out)
    have BX4:=hid (BX.out.next BS.out)
    have k4:=(World.cell?_of_block (a:=⟨r,0,none⟩) (BS.out.block r RL.out)).trans k0
    clear k0
    obtain ⟨x0,x1,x2,x3,x4,x5,xz⟩:=BX4.out
    obtain ⟨y0,y1,y2,y3,y4,y5,yz⟩:=HS9.out
    clear y0 y1 y4 y5 yz
    cases tb with
    | false =>
     have FF:=hid (show ((0:Int),pl)=R from by rw [← RF2.out];rfl)
     go_upto_region 28 with fail
     go_quiet (fail)
     have BQ:=hid (drewN_below w4 nq)
     have C5:=hid (C4.out.next BQ.out)
     have G5:=hid (G4.out.below BQ.out)
     have FC:=hid (fail11_any C5.out.ck (.nd ⟨#[97,116]⟩ nm kd n pl ts) (.slice sa ts.length sc) rfl)
     simp only [tr_op9,tr_name9,tr_kind9,tr_n9,tr_pl9,Option.getD_none] at FC
     go_wp2_with (go_at_call 48;(with_reducible refine Calls.mono FC.out ?_);rintro e w9 ⟨rfl,c9,g9⟩;have C9:=hid c9;have G9:=hid g9;clear c9 g9)
     go_returns
     exact ⟨by rw [← FF.out];rfl,by rw [← FF.out];exact ofE ((C5.out.bad (fun g s=>HS.out g s.1) C9.out G9.out).sub (fun g s _=>s.1)) F1.out F2.out,G5.out.trans G9.out⟩
    | true =>
     by_cases qa:a=X.n
     ·have z:(a != X.n)=false:=by simpa using qa
      have KK:=hid (KZ.out rfl)
      have e1:onl (true && (a==X.n)) ((X.kind:Nat):Int)=((X.kind:Nat):Int):=by rw [show (a==X.n)=true from by simpa using qa];rfl
      have FF:=hid (show (((X.kind:Nat):Int),0)=R from by rw [← RF2.out,e1,if_neg (by have:=KK.out;omega)])
      have FN:=hid (show fO (((X.kind:Nat):Int),0)=none from if_neg (by show ¬ ((X.kind:Nat):Int)=0;have:=KK.out;omega))
      clear qa e1
      go_upto_region 28 with fail
      go_quiet (fail)
      have BQ:=hid (drewN_below w4 nq)
      have C5:=hid (C4.out.next BQ.out)
      have G5:=hid (G4.out.below BQ.out)
      go_wp2_with fail
      go_returns
      exact ⟨by rw [← FF.out];rfl,by rw [← FF.out,FN.out];exact ofE (C5.out.sub (fun g s _=>s.1)) F1.out F2.out,G5.out⟩
     ·have z:(a != X.n)=true:=by simpa using qa
      have FF:=hid (show ((0:Int),pl)=R from by rw [← RF2.out,show (a==X.n)=false from beqI _ _ qa];rfl)
      clear qa
      go_upto_region 28 with fail
      go_quiet (fail)
      have BQ:=hid (drewN_below w4 nq)
      have C5:=hid (C4.out.next BQ.out)
      have G5:=hid (G4.out.below BQ.out)
      have FC:=hid (fail11_any C5.out.ck (.nd ⟨#[97,116]⟩ nm kd n pl ts) (.slice sa ts.length sc) rfl)
      simp only [tr_op9,tr_name9,tr_kind9,tr_n9,tr_pl9,Option.getD_none] at FC
      go_wp2_with (go_at_call 48;(with_reducible refine Calls.mono FC.out ?_);rintro e w9 ⟨rfl,c9,g9⟩;have C9:=hid c9;have G9:=hid g9;clear c9 g9)
      go_returns
      exact ⟨by rw [← FF.out];rfl,by rw [← FF.out];exact ofE ((C5.out.bad (fun g s=>HS.out g s.1) C9.out G9.out).sub (fun g s _=>s.1)) F1.out F2.out,G5.out.trans G9.out⟩
end Go.Proofs.YtonmdlhlkacppaaDoor
