/- Parts of the proof. -/
import Derived.Test.YtonmdlhlkacppaaDoorKg
import Derived.Test.YtonmdlhlkacppaaDoorKR
import Derived.BigQuiet
import Derived.Deep.RegionHeld3
namespace Go.Proofs.YtonmdlhlkacppaaDoor
open Go.RowKit
set_option linter.unusedVariables false
set_option linter.unusedSimpArgs false
theorem own_at {w:World} {base:Nat} {e:TypeId} {k:Nat} {v:Value} {n:Nat} {xs:List Value} (h:w.ownsRow base e k v n xs) (hn:0<n):∃ g cap,v=.slice (some ⟨g,0,none⟩) n cap∧∀ j u,xs[j]?=some u→w.cell? ⟨g,j,none⟩=some u:=by
 cases n with
 | zero=>omega
 | succ n=>exact own_some h
theorem fdC_get {l:List (ByteArray × Nat)} {j:Nat} {x:ByteArray × Nat} (h:l[j]?=some x):(fdC l)[j*2]?=some (.string x.1)∧(fdC l)[j*2+1]?=some (.int .i64 (x.2:Nat)):=by
 induction l generalizing j with
 | nil=>simp at h
 | cons y l ih =>
  have e:fdC (y :: l)=.string y.1 :: .int .i64 (y.2:Nat) :: fdC l:=by simp [fdC]
  rw [e]
  cases j with
  | zero=>simp at h;subst h;exact ⟨rfl,rfl⟩
  | succ j =>
   have:=ih (j:=j) (by simpa using h)
   rw [show (j+1)*2=j*2+1+1 by omega]
   exact ⟨by simpa using this.1,by simpa using this.2⟩
theorem kdC_get {l:List Nat} {j x:Nat} (h:l[j]?=some x):(kdC l)[j]?=some (.int .i64 (x:Nat)):=by
 unfold kdC
 rw [List.getElem?_map,h]
 rfl
theorem fld_split (op:ByteArray) (a b:List Tr):fldF op (a ++ b)=fldF op a ++ fldF op b:=by
 unfold fldF
 rw [List.filter_append,List.map_append]
theorem fld_one (op:ByteArray) (k:Tr) (b:List Tr) (h:eqB k.op op=true):fldF op (k :: b)=(k.name,k.kind) :: fldF op b:=by
 unfold fldF
 rw [List.filter_cons,if_pos h]
 rfl
theorem fld_no (op:ByteArray) (k:Tr) (h:eqB k.op op=false):fldF op [k]=[]:=by
 unfold fldF
 rw [List.filter_cons,if_neg (by rw [h];decide)]
 rfl
theorem fld_get {op:ByteArray} {ks:List Tr} {i:Nat} {k:Tr} (hk:ks[i]?=some k) (h:eqB k.op op=true):(fldF op ks)[(fldF op (ks.take i)).length]?=some (k.name,k.kind):=by
 obtain ⟨h1,h2⟩:=List.getElem?_eq_some_iff.1 hk
 have e:ks=ks.take i ++ k :: ks.drop (i+1):=by rw [← h2,← List.drop_eq_getElem_cons h1,List.take_append_drop]
 have e2:fldF op ks=fldF op (ks.take i) ++ ((k.name,k.kind) :: fldF op (ks.drop (i+1))):=by rw [← fld_one op k _ h,← fld_split,← e]
 rw [e2,List.getElem?_append_right (Nat.le_refl _)]
 simp
theorem fld_step {op:ByteArray} {ks:List Tr} {i:Nat} {k:Tr} (hk:ks[i]?=some k):(fldF op (ks.take (i+1))).length=(fldF op (ks.take i)).length+(if eqB k.op op=true then 1 else 0):=by
 rw [List.take_add_one,hk]
 show (fldF op (ks.take i ++ [k])).length=_
 rw [fld_split,List.length_append]
 cases h:eqB k.op op with
 | true=>rw [fld_one op k [] h];rfl
 | false=>rw [fld_no op k h];rfl
theorem fld_le (op:ByteArray) (ks:List Tr):(fldF op ks).length≤ks.length:=by
 unfold fldF
 rw [List.length_map]
 exact List.length_filter_le _ _
set_option maxRecDepth 100000 in
set_option maxHeartbeats 8000000 in
theorem says_walk (w:World) (hT:TabM w) (text:ByteArray):Calls Tryd.prog 4 #[.string text] w fun e w'=>e=.returned (.bool true)∧Below w.heap.size w w':=by
 have KA:=hid (awake_any w hT)
 by_cases hs:text.size≤3000
 ·have hs':¬ (3000:Int)<(text.size:Int):=by omega
  have K2:=hid (fun W=>read_any text W hs)
  unfold RdX at K2
  cases ho:okX text with
  | false =>
   simp only [ho] at K2
   generalize trX text=t at *
   clear ho hs hT
   go_enter Tryd.func4,Tryd.ntmps4
   go_upto_region 5 with (go_at_call 8;(with_reducible refine Calls.mono KA.out ?_);rintro e w4 ⟨rfl,b4⟩;have B4:=hid b4;clear b4)
   have k2:=hid (K2.out w4)
   go_wp2_with (go_at_call 9;(with_reducible refine Calls.mono k2.out ?_);rintro e w5 ⟨b5,sa5,sb5,sm5,sc5,sn5,sd5,rfl,n5,m5⟩;have B5:=hid b5;have N5:=hid n5;have M5:=hid m5;clear b5 n5 m5)
   go_returns
   exact ⟨rfl,nextB (nextB B4.out B5.out) (((Below.refl _ _).alloc (Nat.le_refl _) _).alloc (by simp) _)⟩
  | true =>
   have GD2:=hid (good_tr ho)
   have LN:=hid (len_tr (t:=text) hs)
   simp only [ho] at K2
   generalize trX text=t at *
   have HT:=hid hT
   have KLn:(t.kids.length:Int)≤10000:=by have:=LN.out;omega
   clear ho hs hT
   have KC:=hid (fun W (b:Below w.heap.size w W) S v hd=>Check_any t GD2.out.1 S W v hd GD2.out.2 LN.out (HT.out.next b))
   have KD:=hid (fun W S v hd=>check11_any t S W v hd GD2.out.2 LN.out)
   obtain ⟨ck,hck⟩:∃ ck,ckF t.kids=ck:=⟨_,rfl⟩
   unfold CkP at KC
   rw [hck] at KC KD
   obtain ⟨a7,h7⟩:∃ x,((ck.getD 0:Nat):Int)=x:=⟨_,rfl⟩
   obtain ⟨e7,h8⟩:∃ x,(if ck.isNone=true then (0:Int) else 8)=x:=⟨_,rfl⟩
   obtain ⟨b7,h9⟩:∃ x,bd ck=x:=⟨_,rfl⟩
   rw [h7,h8] at KC
   rw [h9] at KD
   have H7:=hid h7
   have H8:=hid h8
   have H9:=hid h9
   have KK:=hid (fun W S v hd=>Kinds_any t S W v hd LN.out)
   unfold KsP at KK
   have KI:=hid (fun W S v hd=>Inputs_any t S W v hd LN.out)
   have KR:=hid (fun W S v hd=>Rules_any t S W v hd LN.out)
   unfold FsP at KI KR
   clear hck h7 h8 h9
   go_enter Tryd.func4,Tryd.ntmps4
   go_upto_region 5 with (go_at_call 8;(with_reducible refine Calls.mono KA.out ?_);rintro e w4 ⟨rfl,b4⟩;have B4:=hid b4;clear b4)
   have k2:=hid (K2.out w4)
   go_upto_region 6 with (go_at_call 9;(with_reducible refine Calls.mono k2.out ?_);rintro e w5 ⟨b5,sa5,sb5,sm5,sc5,sn5,sd5,rfl,n5,m5⟩;have B5:=hid b5;have N5:=hid n5;have M5:=hid m5;clear b5 n5 m5)
   have A6:=hid (show Below w5.heap.size w5 ((w5.alloc (.cells #[.string t.op,.string t.name,.int .i64 (t.kind:Nat),.int .i64 t.n,.int .i64 (t.pl:Nat),.slice sa5 sm5 sc5] 26)).alloc (.cells #[.string t.op,.string t.name,.int .i64 (t.kind:Nat),.int .i64 t.n,.int .i64 (t.pl:Nat),.slice sb5 sn5 sd5] 29)) from ((Below.refl _ _).alloc (Nat.le_refl _) _).alloc (by simp) _)
   have P6:=hid (nextB (nextB B4.out B5.out) A6.out)
   have X6:=hid (show B6 ((w5.alloc (.cells #[.string t.op,.string t.name,.int .i64 (t.kind:Nat),.int .i64 t.n,.int .i64 (t.pl:Nat),.slice sa5 sm5 sc5] 26)).alloc (.cells #[.string t.op,.string t.name,.int .i64 (t.kind:Nat),.int .i64 t.n,.int .i64 (t.pl:Nat),.slice sb5 sn5 sd5] 29)) w5.heap.size (.string t.op) (.string t.name) (.int .i64 (t.kind:Nat)) (.int .i64 t.n) (.int .i64 (t.pl:Nat)) (.slice sa5 sm5 sc5) from (B6.new w5 26 _ _ _ _ _ _).next ((Below.refl _ _).alloc (Nat.le_refl _) _))
   have Y6:=hid (show B6 ((w5.alloc (.cells #[.string t.op,.string t.name,.int .i64 (t.kind:Nat),.int .i64 t.n,.int .i64 (t.pl:Nat),.slice sa5 sm5 sc5] 26)).alloc (.cells #[.string t.op,.string t.name,.int .i64 (t.kind:Nat),.int .i64 t.n,.int .i64 (t.pl:Nat),.slice sb5 sn5 sd5] 29)) (w5.heap.size+1) (.string t.op) (.string t.name) (.int .i64 (t.kind:Nat)) (.int .i64 t.n) (.int .i64 (t.pl:Nat)) (.slice sb5 sn5 sd5) from by have q:=B6.new (w5.alloc (.cells #[.string t.op,.string t.name,.int .i64 (t.kind:Nat),.int .i64 t.n,.int .i64 (t.pl:Nat),.slice sa5 sm5 sc5] 26)) 29 (.string t.op) (.string t.name) (.int .i64 (t.kind:Nat)) (.int .i64 t.n) (.int .i64 (t.pl:Nat)) (.slice sb5 sn5 sd5);rw [show (w5.alloc (.cells #[.string t.op,.string t.name,.int .i64 (t.kind:Nat),.int .i64 t.n,.int .i64 (t.pl:Nat),.slice sa5 sm5 sc5] 26)).heap.size=w5.heap.size+1 by simp] at q;exact q)
   have N6:=hid (N5.out.gwY A6.out)
   have M6:=hid (M5.out.gwY A6.out)
   clear N5 M5 k2 B5 B4 A6 K2 KA
   generalize World.alloc (World.alloc w5 _) _=w6 at *
   generalize w5.heap.size+1=qw at *
   generalize w5.heap.size=qn at *
   have kc:=hid (KC.out w6 P6.out _ _ N6.out)
   obtain ⟨x0,x1,x2,x3,x4,x5,xz⟩:=X6.out
   go_upto_region 9 with (go_at_call 10;(with_reducible refine Calls.mono kc.out ?_);rintro e wa ⟨rfl,ba⟩;have PA:=hid (nextB P6.out ba);have XA9:=hid (X6.out.next ba);have YA:=hid (Y6.out.next ba);have NA:=hid (N6.out.gwY ba);have MA:=hid (M6.out.gwY ba);clear ba)
   clear x0 x1 x2 x3 x4 x5 xz kc P6 X6 Y6 N6 M6 KC
   have kd:=hid (KD.out wa _ _ MA.out)
   obtain ⟨y0,y1,y2,y3,y4,y5,yz⟩:=YA.out
   go_upto_region 10 with (go_at_call 13;(with_reducible refine Calls.mono kd.out ?_);rintro e wb ⟨rfl,bb⟩;have PB:=hid (nextB PA.out bb);have XB:=hid (XA9.out.next bb);have YB:=hid (YA.out.next bb);have NB:=hid (NA.out.gwY bb);have MB:=hid (MA.out.gwY bb);clear bb)
   clear y0 y1 y2 y3 y4 y5 yz kd PA XA9 YA NA MA KD
   go_cut [59] from 37 to 59 (fun s wx=>s=.bool false∧Hid (wb=wx))
   case first =>
    cases ck with
    | none =>
     have h7:(0:Int)=a7:=H7.out
     have h8:(0:Int)=e7:=H8.out
     have h9:(-1:Int)=b7:=H9.out
     subst h7 h8 h9
     go_wp2
     go_meet
     exact ⟨rfl,rfl⟩
    | some a =>
     have h7:(a:Int)=a7:=H7.out
     have h8:(8:Int)=e7:=H8.out
     have h9:(a:Int)=b7:=H9.out
     subst h7 h8 h9
     have z:¬ (a:Int)<0:=by omega
     have z':(0:Int)≤(a:Int):=by omega
     go_wp2
     go_meet
     exact ⟨rfl,rfl⟩
   case rest =>
    obtain ⟨rfl,ew⟩:=hcut
    subst ew
    clear H7 H8 H9
    have kk:=hid (KK.out wb _ _ NB.out)
    obtain ⟨x0,x1,x2,x3,x4,x5,xz⟩:=XB.out
    obtain ⟨sn6,sd6,esl⟩:=MB.out.lenY
    injection esl with es1 es2 es3
    subst es1 es2 es3
    go_upto_region 13 with (go_at_call 14;(with_reducible refine Calls.mono kk.out ?_);rintro e wc ⟨vk,rfl,ok,bc⟩;have PC:=hid (nextB PB.out bc);have XC:=hid (XB.out.next bc);have YC:=hid (YB.out.next bc);have NCn:=hid (NB.out.gwY bc);have MC:=hid (MB.out.gwY bc);have OK:=hid ok;clear bc ok)
    clear x0 x1 x2 x3 x4 x5 xz kk PB XB YB NB MB KK
    obtain ⟨va,vc,rfl⟩:=own_slice OK.out
    have y5:=YC.out.c5
    rw [List.length_map]
    go_upto_region 15 with fail
    clear y5
    refine wp_region_held_drew (S:=fun W=>Below wc.heap.size wc W) (by kernel_rfl) (Below.refl _ _).drew (fun hHeld=>?_)
    refine take2 rfl (i:=0) (v:=.agg #[.string t.op,.string t.name,.int .i64 (t.kind:Nat),.int .i64 t.n,.int .i64 (t.pl:Nat),.slice sa5 sm5 sc5]) (d:=68) rfl rfl (by kernel_rfl) (by kernel_rfl) (by kernel_rfl) (fun _ _ _ h=>h) (Or.inl ⟨by rfl,?_⟩) hHeld ?_
    ·(intro W hW;(try dsimp only at hW);obtain ⟨c0,c1,c2,c3,c4,c5,_⟩:=XC.out.next hW;go_simp)
    try simp only [Act.put,List.setIfInBounds_toArray,List.set_cons_zero,List.set_cons_succ]
    refine take2 rfl (i:=2) (v:=.agg #[.string t.op,.string t.name,.int .i64 (t.kind:Nat),.int .i64 t.n,.int .i64 (t.pl:Nat),.slice sa5 sm5 sc5]) (d:=70) rfl rfl (by kernel_rfl) (by kernel_rfl) (by kernel_rfl) (fun _ _ _ h=>h) (Or.inl ⟨by rfl,?_⟩) hHeld ?_
    ·(intro W hW;(try dsimp only at hW);obtain ⟨c0,c1,c2,c3,c4,c5,_⟩:=XC.out.next hW;go_simp)
    try simp only [Act.put,List.setIfInBounds_toArray,List.set_cons_zero,List.set_cons_succ]
    have BZ:=hid (show Below wc.heap.size wc wc.drew from (Below.refl _ _).drew)
    generalize wc.drew=wz at *
    refine wpAnyH_ready (rs:=[1]) (by kernel_rfl) (by simp) ?_
    refine cons2 rfl rfl (fun K9 hK=>?_)
    go_simp
    refine Calls.mono (KI.out _ _ _ (NCn.out.gwY BZ.out)) ?_
    rintro e wd hI
    obtain ⟨vi,rfl,oi,bi⟩:=hI
    have BI:=hid (nextB BZ.out bi)
    have OI:=hid oi
    have SI:=hid BZ.out.size
    clear oi bi
    go_wp2_with fail
    refine hK.out _ _ BI.out (fun hX=>?_)
    clear hK K9 hHeld
    have hHeld:=hX
    clear hX
    try simp only [Act.put,List.setIfInBounds_toArray,List.set_cons_zero,List.set_cons_succ]
    refine wpAnyH_ready (rs:=[3]) (by kernel_rfl) (by simp) ?_
    refine cons2 rfl rfl (fun K9 hK=>?_)
    go_simp
    refine Calls.mono (KR.out _ _ _ (NCn.out.gwY BI.out)) ?_
    rintro e we hI
    obtain ⟨vr,rfl,or1,br⟩:=hI
    have BR:=hid (nextB BI.out br)
    have OJ:=hid (own_keep OI.out (fun g _ l=>br.block g l))
    have OR:=hid or1
    clear or1 br OI
    go_wp2_with fail
    refine hK.out _ _ BR.out (fun hX=>?_)
    clear hK K9 hHeld
    have hHeld:=hX
    clear hX
    try simp only [Act.put,List.setIfInBounds_toArray,List.set_cons_zero,List.set_cons_succ]
    refine take2 rfl (i:=4) (v:=vi) (d:=10) rfl rfl (by kernel_rfl) (by kernel_rfl) (by kernel_rfl) (fun _ _ _ h=>h) (Or.inl ⟨by rfl,?_⟩) hHeld ?_
    ·(intro W hW;(try dsimp only at hW);go_simp)
    try simp only [Act.put,List.setIfInBounds_toArray,List.set_cons_zero,List.set_cons_succ]
    refine take2 rfl (i:=5) (v:=vr) (d:=11) rfl rfl (by kernel_rfl) (by kernel_rfl) (by kernel_rfl) (fun _ _ _ h=>h) (Or.inl ⟨by rfl,?_⟩) hHeld ?_
    ·(intro W hW;(try dsimp only at hW);go_simp)
    try simp only [Act.put,List.setIfInBounds_toArray,List.set_cons_zero,List.set_cons_succ]
    refine wpAnyH_done (by kernel_rfl) ?_ _
    have OKE:=hid (own_keep OK.out (fun g _ l=>BR.out.block g l))
    have XE:=hid (XC.out.next BR.out)
    have YE:=hid (YC.out.next BR.out)
    have NE9:=hid (NCn.out.gwY BR.out)
    have ME:=hid (MC.out.gwY BR.out)
    have PE:=hid (nextB PC.out BR.out)
    obtain ⟨ia,ic,rfl⟩:=own_slice OJ.out
    obtain ⟨ra,rc,rfl⟩:=own_slice OR.out
    clear XC YC NCn MC PC BR BI BZ SI OK KI KR
    obtain ⟨LI,hLI⟩:∃ x,(fldF ⟨#[105,110,112,117,116]⟩ t.kids).length=x:=⟨_,rfl⟩
    obtain ⟨LQ,hLQ⟩:∃ x,(fldF ⟨#[114,117,108,101]⟩ t.kids).length=x:=⟨_,rfl⟩
    rw [hLI] at OJ ⊢
    rw [hLQ] at OR ⊢
    have HLI:=hid hLI
    have HLQ:=hid hLQ
    have LIB:(LI:Int)≤10000:=by have:=fld_le ⟨#[105,110,112,117,116]⟩ t.kids;omega
    have LQB:(LQ:Int)≤10000:=by have:=fld_le ⟨#[114,117,108,101]⟩ t.kids;omega
    clear hLI hLQ
    have y5:=YE.out.c5
    go_upto_region 18 with fail
    clear y5
    go_loopg [12,13,14,15,16] (t.kids.length) (fun g av bv xv dv fv wr=>∃ i:Nat,i≤t.kids.length∧g=t.kids.length - i∧av=.int .i64 ((fldF ⟨#[105,110,112,117,116]⟩ (t.kids.take i)).length:Nat)∧bv=.int .i64 ((fldF ⟨#[114,117,108,101]⟩ (t.kids.take i)).length:Nat)∧xv=.int .i64 (i:Nat)∧Hid (Below we.heap.size we wr))
    case atStart=>exact ⟨0,Nat.zero_le _,rfl,rfl,rfl,rfl,Below.refl _ _⟩
    case round =>
     obtain ⟨i,hi,rfl,rfl,rfl,rfl,B2⟩:=hrel
     have y5:=(YE.out.next B2.out).c5
     by_cases qi:i<t.kids.length
     ·have qi':(i:Int)<(t.kids.length:Int):=by omega
      obtain ⟨k,hk⟩:∃ k,t.kids[i]?=some k:=⟨_,List.getElem?_eq_getElem qi⟩
      obtain ⟨gw,cw,s3,ea,nc,nk⟩:=(ME.out.gwY B2.out).atY i k hk
      obtain ⟨ka,km,kc,rfl⟩:=nk.slice
      injection ea with ea _ ec
      subst ea ec
      obtain ⟨gk,ck9,ek,hkk⟩:=own_at OKE.out (by rw [List.length_map];omega)
      injection ek with ek1 ek2 ek3
      subst ek1 ek3
      have KCELL:=hid (celN B2.out (hkk i _ (kdC_get (x:=k.kind) (by rw [List.getElem?_map,hk];rfl))))
      have SA:=hid (fld_step (op:=⟨#[105,110,112,117,116]⟩) hk)
      have SB:=hid (fld_step (op:=⟨#[114,117,108,101]⟩) hk)
      have FI:=hid (fun h=>fld_get (op:=⟨#[105,110,112,117,116]⟩) hk h)
      have FR:=hid (fun h=>fld_get (op:=⟨#[114,117,108,101]⟩) hk h)
      have nab:((fldF ⟨#[105,110,112,117,116]⟩ (t.kids.take i)).length:Int)≤10000:=by have:=fld_le ⟨#[105,110,112,117,116]⟩ (t.kids.take i);rw [List.length_take] at this;omega
      have nbb:((fldF ⟨#[114,117,108,101]⟩ (t.kids.take i)).length:Int)≤10000:=by have:=fld_le ⟨#[114,117,108,101]⟩ (t.kids.take i);rw [List.length_take] at this;omega
      generalize (fldF ⟨#[105,110,112,117,116]⟩ (t.kids.take i)).length=na at *
      generalize (fldF ⟨#[114,117,108,101]⟩ (t.kids.take i)).length=nb at *
      have GK:=hid (GD2.out.2 k (List.mem_iff_getElem?.2 ⟨i,hk⟩))
      have HK:=hid hk
      have A3:=hid (show Below wr.heap.size wr (wr.alloc (.cells #[.string k.op,.string k.name,.int .i64 (k.kind:Nat),.int .i64 k.n,.int .i64 (k.pl:Nat),.slice ka km kc] 29)) from (Below.refl _ _).alloc (Nat.le_refl _) _)
      have D3:=hid (B6.new wr 29 (.string k.op) (.string k.name) (.int .i64 (k.kind:Nat)) (.int .i64 k.n) (.int .i64 (k.pl:Nat)) (.slice ka km kc))
      have B3:=hid (nextB B2.out A3.out)
      have N3:=hid (nk.gwY A3.out)
      have kcl:=celN A3.out KCELL.out
      obtain ⟨n0,n1,n2,n3,n4,n5⟩:=nc
      clear nk hk hkk ek2
      go_upto_region 21 with fail
      clear n0 n1 n2 n3 n4 n5 y5 KCELL
      generalize World.alloc wr _=w7 at *
      generalize wr.heap.size=kb at *
      have d2:=D3.out.c2
      go_quiet (fail)
      have BQ:=hid (drewN_below w7 nq)
      clear d2 kcl
      have D4:=hid (D3.out.next BQ.out)
      have N4:=hid (N3.out.gwY BQ.out)
      have B4:=hid (nextB B3.out BQ.out)
      clear D3 N3 B3 A3 B2
      generalize w7.drewN nq=w8 at *
      have d1:=D4.out.c1
      have d2:=D4.out.c2
      go_upto_region 24 with fail
      clear d1 d2
      have A5:=hid (show Below w8.heap.size w8 (w8.alloc (.cells #[.string k.name,.int .i64 (k.kind:Nat)] 37)) from (Below.refl _ _).alloc (Nat.le_refl _) _)
      have f0:(w8.alloc (.cells #[.string k.name,.int .i64 (k.kind:Nat)] 37)).cell? ⟨w8.heap.size,0,none⟩=some (.string k.name):=by simp
      have f1:(w8.alloc (.cells #[.string k.name,.int .i64 (k.kind:Nat)] 37)).cell? ⟨w8.heap.size,1,none⟩=some (.int .i64 (k.kind:Nat)):=by simp
      have DV:=hid (D4.out.next A5.out)
      have NV:=hid (N4.out.gwY A5.out)
      have BV:=hid (nextB B4.out A5.out)
      clear D4 N4 B4 A5
      generalize World.alloc w8 _=wv at *
      generalize w8.heap.size=fb at *
      have d0:=DV.out.c0
      cases yo:eqB k.op ⟨#[105,110,112,117,116]⟩ with
      | true =>
       have z:(k.op.toList==[105,110,112,117,116])=true:=(eqL _ _).trans yo
       have yr:eqB k.op ⟨#[114,117,108,101]⟩=false:=by
        have:=yo
        rw [eqB_eqX yo]
        rfl
       have FG:=hid (FI.out yo)
       have NL:=hid (show na<LI from by have:=lt_of_some FG.out;rw [HLI.out] at this;exact this)
       have SA2:=hid (show (fldF ⟨#[105,110,112,117,116]⟩ (t.kids.take (i+1))).length=na+1 from by rw [SA.out,yo];rfl)
       have SB2:=hid (show (fldF ⟨#[114,117,108,101]⟩ (t.kids.take (i+1))).length=nb from by rw [SB.out,yr];rfl)
       obtain ⟨gi,ci9,ei,hii⟩:=own_at OJ.out (by have:=NL.out;omega)
       injection ei with ei1 ei2 ei3
       subst ei1 ei3
       have r0:=celN BV.out (hii _ _ (fdC_get FG.out).1)
       have r1:=celN BV.out (hii _ _ (fdC_get FG.out).2)
       have zl:¬ (LI:Int)≤(na:Int):=by have:=NL.out;omega
       have zl':(na:Int)<(LI:Int):=by have:=NL.out;omega
       clear yo yr hii ei2
       go_upto_region 26 with fail
       go_quiet (fail)
       have BQ2:=hid (drewN_below wv nq)
       have B9:=hid (nextB BV.out BQ2.out)
       clear r0 r1 f0 f1
       generalize wv.drewN nq=wq at *
       go_wp2_with fail
       go_roundg (t.kids.length - (i+1))
       case measure=>omega
       case rel=>exact ⟨i+1,by omega,rfl,by rw [SA2.out,Int.natCast_add];rfl,by rw [SB2.out],by rw [Int.natCast_add];rfl,B9.out⟩
      | false =>
       have z:(k.op.toList==[105,110,112,117,116])=false:=(eqL _ _).trans yo
       have SA2:=hid (show (fldF ⟨#[105,110,112,117,116]⟩ (t.kids.take (i+1))).length=na from by rw [SA.out,yo];rfl)
       clear yo
       cases yr:eqB k.op ⟨#[114,117,108,101]⟩ with
       | false =>
        have zr:(k.op.toList==[114,117,108,101])=false:=(eqL _ _).trans yr
        have SB2:=hid (show (fldF ⟨#[114,117,108,101]⟩ (t.kids.take (i+1))).length=nb from by rw [SB.out,yr];rfl)
        clear yr f0 f1
        go_wp2_with fail
        go_roundg (t.kids.length - (i+1))
        case measure=>omega
        case rel=>exact ⟨i+1,by omega,rfl,by rw [SA2.out],by rw [SB2.out],by rw [Int.natCast_add];rfl,BV.out⟩
       | true =>
        have zr:(k.op.toList==[114,117,108,101])=true:=(eqL _ _).trans yr
        have FG:=hid (FR.out yr)
        have NL:=hid (show nb<LQ from by have:=lt_of_some FG.out;rw [HLQ.out] at this;exact this)
        have SB2:=hid (show (fldF ⟨#[114,117,108,101]⟩ (t.kids.take (i+1))).length=nb+1 from by rw [SB.out,yr];rfl)
        obtain ⟨gr,cr9,ei,hii⟩:=own_at OR.out (by have:=NL.out;omega)
        injection ei with ei1 ei2 ei3
        subst ei1 ei3
        have r0:=celN BV.out (hii _ _ (fdC_get FG.out).1)
        have r1:=celN BV.out (hii _ _ (fdC_get FG.out).2)
        have zl:¬ (LQ:Int)≤(nb:Int):=by have:=NL.out;omega
        have zl':(nb:Int)<(LQ:Int):=by have:=NL.out;omega
        obtain ⟨e,ek,ge,k1⟩:=rul_kid GK.out yr
        have EK:=hid ek
        have GE4:=hid ge
        obtain ⟨gn,cn,sn,ea,ncn,nkn⟩:=(NE9.out.gwY BV.out).atY i k HK.out
        injection ea with ea1 ea2 ea3
        subst ea1 ea2 ea3
        have nkn2:=nkn
        rw [ek] at nkn2
        obtain ⟨g2,c2,se,rfl,_,nce,nde⟩:=nkn2.one1
        obtain ⟨ea,em,ec,rfl⟩:=nde.slice
        have p5:=ncn.e5
        obtain ⟨e0,e1,e2,e3,e4,e5⟩:=nce
        have nkw:=NV.out
        rw [ek] at nkw
        obtain ⟨g3,c3,sf,es,_,ncf,ndf⟩:=nkw.one1
        injection es with es1 es2 es3
        subst es1 es2 es3
        obtain ⟨fa,fm,fc,rfl⟩:=ndf.slice
        obtain ⟨h0,h1,h2,h3,h4,h5⟩:=ncf
        simp only [Nat.zero_add] at e1 e2 e3 e4 e5 h1 h2 h3 h4 h5
        have XV:=hid (XE.out.next BV.out)
        have YV:=hid (YE.out.next BV.out)
        have NW:=hid (NE9.out.gwY BV.out)
        have MW:=hid (ME.out.gwY BV.out)
        have NDE:=hid nde
        have NDF:=hid ndf
        have PV:=hid (nextB PE.out BV.out)
        have KO:=hid (fun W (b:Below wv.heap.size wv W)=>Of_any t e _ _ W _ _ (NW.out.gwY b) GD2.out.2 LN.out [] none 0 (fun i x hx=>by simp at hx) (by simp) 40 GE4.out (by decide) (NDE.out.gwY b) (HT.out.next (nextB PV.out b)))
        have KP:=hid (fun W (b:Below wv.heap.size wv W)=>of11_any t e _ _ W _ _ (MW.out.gwY b) GD2.out.2 LN.out 40 GE4.out (by decide) (NDF.out.gwY b))
        simp only [List.length_nil] at KO
        generalize (chk t.kids [] [] e).1=R1 at *
        clear yr hii ei2 ek ge k1 ncn nkn nkn2 nde nkw ndf
        go_upto_region 30 with fail
        refine wp_region_held_drew (S:=fun W=>Below wv.heap.size wv W) (by kernel_rfl) (Below.refl _ _).drew (fun hHeld=>?_)
        refine take2 rfl (i:=0) (v:=.int .i64 (nb:Nat)) (d:=116) rfl rfl (by kernel_rfl) (by kernel_rfl) (by kernel_rfl) (fun _ _ _ h=>h) (Or.inl ⟨by rfl,?_⟩) hHeld ?_
        ·(intro W hW;(try dsimp only at hW);go_simp)
        try simp only [Act.put,List.setIfInBounds_toArray,List.set_cons_zero,List.set_cons_succ]
        refine take2 rfl (i:=1) (v:=.slice (some ⟨gr,0,none⟩) LQ rc) (d:=117) rfl rfl (by kernel_rfl) (by kernel_rfl) (by kernel_rfl) (fun _ _ _ h=>h) (Or.inl ⟨by rfl,?_⟩) hHeld ?_
        ·(intro W hW;(try dsimp only at hW);go_simp)
        try simp only [Act.put,List.setIfInBounds_toArray,List.set_cons_zero,List.set_cons_succ]
        refine take2 rfl (i:=2) (v:=.int .i64 (LQ:Nat)) (d:=118) rfl rfl (by kernel_rfl) (by kernel_rfl) (by kernel_rfl) (fun _ _ _ h=>h) (Or.inl ⟨by rfl,?_⟩) hHeld ?_
        ·(intro W hW;(try dsimp only at hW);go_simp)
        try simp only [Act.put,List.setIfInBounds_toArray,List.set_cons_zero,List.set_cons_succ]
        refine take2 rfl (i:=3) (v:=.bool false) (d:=119) rfl rfl (by kernel_rfl) (by kernel_rfl) (by kernel_rfl) (fun _ _ _ h=>h) (Or.inl ⟨by rfl,?_⟩) hHeld ?_
        ·(intro W hW;(try dsimp only at hW);go_simp)
        try simp only [Act.put,List.setIfInBounds_toArray,List.set_cons_zero,List.set_cons_succ]
        refine take2 rfl (i:=4) (v:=.bool false) (d:=120) rfl rfl (by kernel_rfl) (by kernel_rfl) (by kernel_rfl) (fun _ _ _ h=>h) (Or.inl ⟨by rfl,?_⟩) hHeld ?_
        ·(intro W hW;(try dsimp only at hW);go_simp)
        try simp only [Act.put,List.setIfInBounds_toArray,List.set_cons_zero,List.set_cons_succ]
        refine take2 rfl (i:=5) (v:=.slice (some ⟨gr,0,none⟩) LQ rc) (d:=121) rfl rfl (by kernel_rfl) (by kernel_rfl) (by kernel_rfl) (fun _ _ _ h=>h) (Or.inl ⟨by rfl,?_⟩) hHeld ?_
        ·(intro W hW;(try dsimp only at hW);go_simp)
        try simp only [Act.put,List.setIfInBounds_toArray,List.set_cons_zero,List.set_cons_succ]
        refine take2 rfl (i:=6) (v:=.int .i64 (nb:Nat)) (d:=122) rfl rfl (by kernel_rfl) (by kernel_rfl) (by kernel_rfl) (fun _ _ _ h=>h) (Or.inl ⟨by rfl,?_⟩) hHeld ?_
        ·(intro W hW;(try dsimp only at hW);go_simp)
        try simp only [Act.put,List.setIfInBounds_toArray,List.set_cons_zero,List.set_cons_succ]
        refine take2 rfl (i:=7) (v:=.pointer (some ⟨gr,nb*2,none⟩)) (d:=123) rfl rfl (by kernel_rfl) (by kernel_rfl) (by kernel_rfl) (fun _ _ _ h=>h) (Or.inl ⟨by rfl,?_⟩) hHeld ?_
        ·(intro W hW;(try dsimp only at hW);go_simp)
        try simp only [Act.put,List.setIfInBounds_toArray,List.set_cons_zero,List.set_cons_succ]
        refine take2 rfl (i:=8) (v:=.agg #[.string k.name,.int .i64 (k.kind:Nat)]) (d:=124) rfl rfl (by kernel_rfl) (by kernel_rfl) (by kernel_rfl) (fun _ _ _ h=>h) (Or.inl ⟨by rfl,?_⟩) hHeld ?_
        ·(intro W hW;(try dsimp only at hW);have c1:=celN hW r0;have c2:=celN hW r1;go_simp)
        try simp only [Act.put,List.setIfInBounds_toArray,List.set_cons_zero,List.set_cons_succ]
        refine take2 rfl (i:=9) (v:=.agg #[.string k.name,.int .i64 (k.kind:Nat)]) (d:=125) rfl rfl (by kernel_rfl) (by kernel_rfl) (by kernel_rfl) (fun _ _ _ h=>h) (Or.inl ⟨by rfl,?_⟩) hHeld ?_
        ·(intro W hW;(try dsimp only at hW);have c1:=celN hW f0;have c2:=celN hW f1;go_simp)
        try simp only [Act.put,List.setIfInBounds_toArray,List.set_cons_zero,List.set_cons_succ]
        refine take2 rfl (i:=10) (v:=.bool false) (d:=126) rfl rfl (by kernel_rfl) (by kernel_rfl) (by kernel_rfl) (fun _ _ _ h=>h) (Or.inl ⟨by rfl,?_⟩) hHeld ?_
        ·(intro W hW;(try dsimp only at hW);go_simp)
        try simp only [Act.put,List.setIfInBounds_toArray,List.set_cons_zero,List.set_cons_succ]
        refine take2 rfl (i:=11) (v:=.bool false) (d:=127) rfl rfl (by kernel_rfl) (by kernel_rfl) (by kernel_rfl) (fun _ _ _ h=>h) (Or.inl ⟨by rfl,?_⟩) hHeld ?_
        ·(intro W hW;(try dsimp only at hW);go_simp)
        try simp only [Act.put,List.setIfInBounds_toArray,List.set_cons_zero,List.set_cons_succ]
        refine take2 rfl (i:=12) (v:=.bool false) (d:=128) rfl rfl (by kernel_rfl) (by kernel_rfl) (by kernel_rfl) (fun _ _ _ h=>h) (Or.inl ⟨by rfl,?_⟩) hHeld ?_
        ·(intro W hW;(try dsimp only at hW);go_simp)
        try simp only [Act.put,List.setIfInBounds_toArray,List.set_cons_zero,List.set_cons_succ]
        refine take2 rfl (i:=13) (v:=.agg #[.string t.op,.string t.name,.int .i64 (t.kind:Nat),.int .i64 t.n,.int .i64 (t.pl:Nat),.slice (some ⟨gn,0,none⟩) t.kids.length sc5]) (d:=129) rfl rfl (by kernel_rfl) (by kernel_rfl) (by kernel_rfl) (fun _ _ _ h=>h) (Or.inl ⟨by rfl,?_⟩) hHeld ?_
        ·(intro W hW;(try dsimp only at hW);obtain ⟨c0,c1,c2,c3,c4,c5,_⟩:=XV.out.next hW;go_simp)
        try simp only [Act.put,List.setIfInBounds_toArray,List.set_cons_zero,List.set_cons_succ]
        refine take2 rfl (i:=14) (v:=.pointer (some ⟨qn,5,none⟩)) (d:=130) rfl rfl (by kernel_rfl) (by kernel_rfl) (by kernel_rfl) (fun _ _ _ h=>h) (Or.inl ⟨by rfl,?_⟩) hHeld ?_
        ·(intro W hW;(try dsimp only at hW);go_simp)
        try simp only [Act.put,List.setIfInBounds_toArray,List.set_cons_zero,List.set_cons_succ]
        refine take2 rfl (i:=15) (v:=.slice (some ⟨gn,0,none⟩) t.kids.length sc5) (d:=131) rfl rfl (by kernel_rfl) (by kernel_rfl) (by kernel_rfl) (fun _ _ _ h=>h) (Or.inl ⟨by rfl,?_⟩) hHeld ?_
        ·(intro W hW;(try dsimp only at hW);have c1:=(XV.out.next hW).c5;go_simp)
        try simp only [Act.put,List.setIfInBounds_toArray,List.set_cons_zero,List.set_cons_succ]
        refine take2 rfl (i:=16) (v:=.int .i64 (i:Nat)) (d:=132) rfl rfl (by kernel_rfl) (by kernel_rfl) (by kernel_rfl) (fun _ _ _ h=>h) (Or.inl ⟨by rfl,?_⟩) hHeld ?_
        ·(intro W hW;(try dsimp only at hW);go_simp)
        try simp only [Act.put,List.setIfInBounds_toArray,List.set_cons_zero,List.set_cons_succ]
        refine take2 rfl (i:=17) (v:=.pointer (some ⟨gn,i*6,none⟩)) (d:=133) rfl rfl (by kernel_rfl) (by kernel_rfl) (by kernel_rfl) (fun _ _ _ h=>h) (Or.inl ⟨by rfl,?_⟩) hHeld ?_
        ·(intro W hW;(try dsimp only at hW);go_simp)
        try simp only [Act.put,List.setIfInBounds_toArray,List.set_cons_zero,List.set_cons_succ]
        refine take2 rfl (i:=18) (v:=.pointer (some ⟨gn,i*6+5,none⟩)) (d:=134) rfl rfl (by kernel_rfl) (by kernel_rfl) (by kernel_rfl) (fun _ _ _ h=>h) (Or.inl ⟨by rfl,?_⟩) hHeld ?_
        ·(intro W hW;(try dsimp only at hW);go_simp)
        try simp only [Act.put,List.setIfInBounds_toArray,List.set_cons_zero,List.set_cons_succ]
        refine take2 rfl (i:=19) (v:=.slice (some ⟨g2,0,none⟩) 1 c2) (d:=135) rfl rfl (by kernel_rfl) (by kernel_rfl) (by kernel_rfl) (fun _ _ _ h=>h) (Or.inl ⟨by rfl,?_⟩) hHeld ?_
        ·(intro W hW;(try dsimp only at hW);have c1:=celN hW p5;go_simp)
        try simp only [Act.put,List.setIfInBounds_toArray,List.set_cons_zero,List.set_cons_succ]
        refine take2 rfl (i:=20) (v:=.pointer (some ⟨g2,0,none⟩)) (d:=136) rfl rfl (by kernel_rfl) (by kernel_rfl) (by kernel_rfl) (fun _ _ _ h=>h) (Or.inl ⟨by rfl,?_⟩) hHeld ?_
        ·(intro W hW;(try dsimp only at hW);go_simp)
        try simp only [Act.put,List.setIfInBounds_toArray,List.set_cons_zero,List.set_cons_succ]
        refine take2 rfl (i:=21) (v:=.agg #[.string e.op,.string e.name,.int .i64 (e.kind:Nat),.int .i64 e.n,.int .i64 (e.pl:Nat),.slice ea em ec]) (d:=137) rfl rfl (by kernel_rfl) (by kernel_rfl) (by kernel_rfl) (fun _ _ _ h=>h) (Or.inl ⟨by rfl,?_⟩) hHeld ?_
        ·(intro W hW;(try dsimp only at hW);have d0:=celN hW e0;have d1:=celN hW e1;have d2:=celN hW e2;have d3:=celN hW e3;have d4:=celN hW e4;have d5:=celN hW e5;go_simp)
        try simp only [Act.put,List.setIfInBounds_toArray,List.set_cons_zero,List.set_cons_succ]
        refine take2 rfl (i:=23) (v:=.agg #[.string t.op,.string t.name,.int .i64 (t.kind:Nat),.int .i64 t.n,.int .i64 (t.pl:Nat),.slice (some ⟨gw,0,none⟩) t.kids.length sd5]) (d:=139) rfl rfl (by kernel_rfl) (by kernel_rfl) (by kernel_rfl) (fun _ _ _ h=>h) (Or.inl ⟨by rfl,?_⟩) hHeld ?_
        ·(intro W hW;(try dsimp only at hW);obtain ⟨c0,c1,c2,c3,c4,c5,_⟩:=YV.out.next hW;go_simp)
        try simp only [Act.put,List.setIfInBounds_toArray,List.set_cons_zero,List.set_cons_succ]
        refine take2 rfl (i:=24) (v:=.pointer (some ⟨kb,5,none⟩)) (d:=140) rfl rfl (by kernel_rfl) (by kernel_rfl) (by kernel_rfl) (fun _ _ _ h=>h) (Or.inl ⟨by rfl,?_⟩) hHeld ?_
        ·(intro W hW;(try dsimp only at hW);go_simp)
        try simp only [Act.put,List.setIfInBounds_toArray,List.set_cons_zero,List.set_cons_succ]
        refine take2 rfl (i:=25) (v:=.slice (some ⟨g3,0,none⟩) 1 kc) (d:=141) rfl rfl (by kernel_rfl) (by kernel_rfl) (by kernel_rfl) (fun _ _ _ h=>h) (Or.inl ⟨by rfl,?_⟩) hHeld ?_
        ·(intro W hW;(try dsimp only at hW);have c1:=(DV.out.next hW).c5;go_simp)
        try simp only [Act.put,List.setIfInBounds_toArray,List.set_cons_zero,List.set_cons_succ]
        refine take2 rfl (i:=26) (v:=.pointer (some ⟨g3,0,none⟩)) (d:=142) rfl rfl (by kernel_rfl) (by kernel_rfl) (by kernel_rfl) (fun _ _ _ h=>h) (Or.inl ⟨by rfl,?_⟩) hHeld ?_
        ·(intro W hW;(try dsimp only at hW);go_simp)
        try simp only [Act.put,List.setIfInBounds_toArray,List.set_cons_zero,List.set_cons_succ]
        refine take2 rfl (i:=27) (v:=.agg #[.string e.op,.string e.name,.int .i64 (e.kind:Nat),.int .i64 e.n,.int .i64 (e.pl:Nat),.slice fa fm fc]) (d:=143) rfl rfl (by kernel_rfl) (by kernel_rfl) (by kernel_rfl) (fun _ _ _ h=>h) (Or.inl ⟨by rfl,?_⟩) hHeld ?_
        ·(intro W hW;(try dsimp only at hW);have d0:=celN hW h0;have d1:=celN hW h1;have d2:=celN hW h2;have d3:=celN hW h3;have d4:=celN hW h4;have d5:=celN hW h5;go_simp)
        try simp only [Act.put,List.setIfInBounds_toArray,List.set_cons_zero,List.set_cons_succ]
        have BZ:=hid (show Below wv.heap.size wv wv.drew from (Below.refl _ _).drew)
        generalize wv.drew=wz at *
        refine wpAnyH_ready (rs:=[22]) (by kernel_rfl) (by simp) ?_
        refine cons2 rfl rfl (fun K9 hK=>?_)
        go_simp
        refine Calls.mono (KO.out _ BZ.out) ?_
        rintro x w8 ⟨rfl,b8⟩
        have B8:=hid (nextB BZ.out b8)
        clear b8
        go_wp2_with fail
        refine hK.out _ _ B8.out (fun hX=>?_)
        clear hK K9 hHeld
        have hHeld:=hX
        clear hX
        try simp only [Act.put,List.setIfInBounds_toArray,List.set_cons_zero,List.set_cons_succ]
        refine wpAnyH_ready (rs:=[28]) (by kernel_rfl) (by simp) ?_
        refine cons2 rfl rfl (fun K9 hK=>?_)
        go_simp
        refine Calls.mono (KP.out _ B8.out) ?_
        rintro x w9 ⟨rfl,b9⟩
        have B9:=hid (nextB B8.out b9)
        clear b9
        go_wp2_with fail
        refine hK.out _ _ B9.out (fun hX=>?_)
        clear hK K9 hHeld
        have hHeld:=hX
        clear hX
        try simp only [Act.put,List.setIfInBounds_toArray,List.set_cons_zero,List.set_cons_succ]
        refine take2 rfl (i:=29) (v:=.bool false) (d:=145) rfl rfl (by kernel_rfl) (by kernel_rfl) (by kernel_rfl) (fun _ _ _ h=>h) (Or.inl ⟨by rfl,?_⟩) hHeld ?_
        ·(intro W hW;(try dsimp only at hW);go_simp)
        try simp only [Act.put,List.setIfInBounds_toArray,List.set_cons_zero,List.set_cons_succ]
        refine take2 rfl (i:=30) (v:=.bool false) (d:=146) rfl rfl (by kernel_rfl) (by kernel_rfl) (by kernel_rfl) (fun _ _ _ h=>h) (Or.inl ⟨by rfl,?_⟩) hHeld ?_
        ·(intro W hW;(try dsimp only at hW);go_simp)
        try simp only [Act.put,List.setIfInBounds_toArray,List.set_cons_zero,List.set_cons_succ]
        refine wpAnyH_done (by kernel_rfl) ?_ _
        clear r0 r1 f0 f1 p5 e0 e1 e2 e3 e4 e5 h0 h1 h2 h3 h4 h5
        have BX9:=hid (nextB BV.out B9.out)
        go_wp2_with fail
        go_roundg (t.kids.length - (i+1))
        case measure=>omega
        case rel=>exact ⟨i+1,by omega,rfl,by rw [SA2.out],by rw [SB2.out,Int.natCast_add];rfl,by rw [Int.natCast_add];rfl,BX9.out⟩
     ·have qi':¬ (i:Int)<(t.kids.length:Int):=by omega
      have e:t.kids.take i=t.kids:=List.take_of_length_le (by omega)
      rw [e,HLI.out,HLQ.out]
      clear e
      go_wp2_with fail
      go_returns
      exact ⟨rfl,nextB PE.out B2.out⟩
 ·have hs':(3000:Int)<(text.size:Int):=by omega
  clear hs hT
  go_enter Tryd.func4,Tryd.ntmps4
  go_wp2_with (go_at_call 8;(with_reducible refine Calls.mono KA.out ?_);rintro e w4 ⟨rfl,b4⟩;have B4:=hid b4;clear b4)
  go_returns
  exact ⟨rfl,B4.out⟩
end Go.Proofs.YtonmdlhlkacppaaDoor
