/- Parts of the proof. -/
import Derived.Test.YteknljnjcoehoaaGreatDoorPr
namespace Go.Proofs.YteknljnjcoehoaaGreatDoor
open Go.RowKit
set_option linter.unusedVariables false
set_option linter.unusedSimpArgs false
theorem Ow.cl {w:World} {T:TypeId} {B:Nat} {v:Value} {l:List ByteArray} (h:Ow w T B v (sv l)) (hn:0<l.length):∃ g cap,v=.slice (some ⟨g,0,none⟩) l.length cap∧∀ (j:Nat) (x:ByteArray),l[j]?=some x→w.cell? ⟨g,j,none⟩=some (.string x):=by
 obtain ⟨a,cap,e,s,_,k⟩:=h.sl
 rw [sv_len] at e s
 rcases k with rfl | ⟨g,rfl⟩
 ·have:=s.none_nil.1;omega
 ·refine ⟨g,cap,e,fun j x hj=>?_⟩
  have:=s.cells j (.string x) (by unfold sv;rw [List.getElem?_map,hj];rfl)
  rwa [Nat.zero_add] at this
def rulN (ks:List Tr) (i:Nat):Nat:=(fldF ⟨#[114,117,108,101]⟩ (ks.take i)).length
theorem rulN_step {ks:List Tr} {i:Nat} {k:Tr} (hk:ks[i]?=some k):rulN ks (i+1)=rulN ks i+(if eqB k.op ⟨#[114,117,108,101]⟩=true then 1 else 0):=by
 unfold rulN fldF
 rw [List.take_add_one,hk,List.length_map,List.length_map,List.filter_append,List.length_append]
 congr 1
 show (List.filter _ [k]).length=_
 rw [List.filter_cons]
 split <;> rfl
theorem rulN_le (ks:List Tr) (i:Nat):rulN ks i≤i:=by
 unfold rulN fldF
 rw [List.length_map]
 exact Nat.le_trans (List.length_filter_le _ _) (by rw [List.length_take];omega)
theorem rulN_all {ks:List Tr} {i:Nat} (h:ks.length≤i):rulN ks i=(rnF ks).length:=by
 unfold rulN
 rw [List.take_of_length_le h,rnF_len]
set_option maxRecDepth 100000 in
set_option maxHeartbeats 8000000 in
theorem leans_walk (w:World) (hT:TabM w) (text:ByteArray):Calls Tryz.prog 5 #[.string text] w fun e w'=>e=.returned (.bool true)∧Below w.heap.size w w':=by
 have KA:=hid (awake_any w hT)
 by_cases hs:text.size≤2500
 ·have hs':¬ (2500:Int)<(text.size:Int):=by omega
  have hs3:text.size≤3000:=by omega
  have K2:=hid (fun W=>read_any text W hs3)
  unfold RdX at K2
  cases ho:okX text with
  | false =>
   simp only [ho] at K2
   generalize trX text=t at *
   clear ho hs hs3 hT
   go_enter Tryz.func5,Tryz.ntmps5
   go_upto_region 5 with (go_at_call 15;(with_reducible refine Calls.mono KA.out ?_);rintro e w4 ⟨rfl,b4⟩;have B4:=hid b4;clear b4)
   have k2:=hid (K2.out w4)
   go_wp2_with (go_at_call 16;(with_reducible refine Calls.mono k2.out ?_);rintro e w5 ⟨b5,sa5,sb5,sm5,sc5,sn5,sd5,rfl,n5,m5⟩;have B5:=hid (nextB B4.out b5);have N5:=hid n5;clear b5 n5 m5)
   go_returns
   exact ⟨rfl,nextB B5.out (((Below.refl _ _).alloc (Nat.le_refl _) _).alloc (by simp) _)⟩
  | true =>
   have GD2:=hid (good_tr ho)
   have LN:=hid (len_tr (t:=text) hs3)
   have DN:=hid (show nodT (trX text)≤90000 from Nat.le_trans (nod_tr hs3) (by decide))
   simp only [ho] at K2
   generalize trX text=t at *
   have NK:=hid (show nodL t.kids≤90000 from by
    have:nodT t=1+nodL t.kids:=by obtain ⟨o,n,k,m,a,kids⟩:=t;rfl
    have:=DN.out
    omega)
   have KLn:(t.kids.length:Int)≤10000:=by have:=LN.out;omega
   have KS:=hid (fun W (b:Below w.heap.size w W) S v hd=>Sort_any t GD2.out.1 GD2.out.2 LN.out DN.out S W v hd (hT.next b))
   have KN:=hid (fun nm W S v hd=>Names_any t GD2.out.2 LN.out DN.out nm S W v hd)
   clear ho hs hs3 hT
   obtain ⟨so,hso⟩:∃ so,sortR t.kids=so:=⟨_,rfl⟩
   unfold SoP at KS
   rw [hso] at KS
   obtain ⟨e8,h8⟩:∃ x,errS so=x:=⟨_,rfl⟩
   obtain ⟨l,h9⟩:∃ x,so.getD []=x:=⟨_,rfl⟩
   rw [h8,h9] at KS
   have HS:=hid hso
   have H8:=hid h8
   have H9:=hid h9
   clear hso h8 h9
   go_enter Tryz.func5,Tryz.ntmps5
   go_upto_region 5 with (go_at_call 15;(with_reducible refine Calls.mono KA.out ?_);rintro e w4 ⟨rfl,b4⟩;have B4:=hid b4;clear b4)
   have k2:=hid (K2.out w4)
   go_upto_region 6 with (go_at_call 16;(with_reducible refine Calls.mono k2.out ?_);rintro e w5 ⟨b5,sa5,sb5,sm5,sc5,sn5,sd5,rfl,n5,m5⟩;have B5:=hid (nextB B4.out b5);have N5:=hid n5;clear b5 n5 m5)
   obtain ⟨sn6,sd6,esl⟩:=N5.out.lenY
   injection esl with es1 es2 es3
   subst es1 es2 es3
   have A6:=hid (show Below w5.heap.size w5 ((w5.alloc (.cells #[.string t.op,.string t.name,.int .i64 (t.kind:Nat),.int .i64 t.n,.int .i64 (t.pl:Nat),.slice sa5 t.kids.length sc5] 26)).alloc (.cells #[.string t.op,.string t.name,.int .i64 (t.kind:Nat),.int .i64 t.n,.int .i64 (t.pl:Nat),.slice sb5 sn5 sd5] 29)) from ((Below.refl _ _).alloc (Nat.le_refl _) _).alloc (by simp) _)
   have P6:=hid (nextB B5.out A6.out)
   have X6:=hid (show B6 ((w5.alloc (.cells #[.string t.op,.string t.name,.int .i64 (t.kind:Nat),.int .i64 t.n,.int .i64 (t.pl:Nat),.slice sa5 t.kids.length sc5] 26)).alloc (.cells #[.string t.op,.string t.name,.int .i64 (t.kind:Nat),.int .i64 t.n,.int .i64 (t.pl:Nat),.slice sb5 sn5 sd5] 29)) w5.heap.size (.string t.op) (.string t.name) (.int .i64 (t.kind:Nat)) (.int .i64 t.n) (.int .i64 (t.pl:Nat)) (.slice sa5 t.kids.length sc5) from (B6.new w5 26 (.string t.op) (.string t.name) (.int .i64 (t.kind:Nat)) (.int .i64 t.n) (.int .i64 (t.pl:Nat)) (.slice sa5 t.kids.length sc5)).next ((Below.refl _ _).alloc (Nat.le_refl _) _))
   have N6:=hid (N5.out.gwY A6.out)
   clear N5 k2 B5 B4 A6 K2 KA
   generalize World.alloc (World.alloc w5 _) _=w6 at *
   generalize w5.heap.size=qn at *
   have ks:=hid (KS.out w6 P6.out _ _ N6.out)
   obtain ⟨x0,x1,x2,x3,x4,x5,xz⟩:=X6.out
   go_upto_region 9 with (go_at_call 17;(with_reducible refine Calls.mono ks.out ?_);rintro e w8 ⟨v8,rfl,o8,b8⟩;have P8:=hid (nextB P6.out b8);have X8:=hid (X6.out.next b8);have N8:=hid (N6.out.gwY b8);obtain ⟨a4,c4,ev4⟩:=own_slice o8.row;rw [sv_len] at ev4;subst ev4;have O8:=hid o8;clear b8 o8)
   clear x0 x1 x2 x3 x4 x5 xz ks X6 N6 P6 KS
   cases so with
   | none =>
    have h8:(8:Int)=e8:=H8.out
    subst h8
    go_wp2_with fail
    go_returns
    exact ⟨rfl,P8.out⟩
   | some l9 =>
    have h8:(0:Int)=e8:=H8.out
    have h9:l=l9:=H9.out.symm
    subst h8 h9
    have SR:=hid (sort_srt HS.out)
    have llb:(l.length:Int)≤10000:=by
     have a:=SR.out.1
     have b:=rulN_le t.kids t.kids.length
     rw [rulN_all (Nat.le_refl _)] at b
     omega
    clear H8 H9 HS
    go_upto_region 13 with fail
    go_loopg [8,9] (t.kids.length) (fun g rv iv wr=>∃ i:Nat,i≤t.kids.length∧g=t.kids.length - i∧rv=.int .i64 (rulN t.kids i:Nat)∧iv=.int .i64 (i:Nat)∧Hid (w8=wr))
    case atStart=>exact ⟨0,Nat.zero_le _,rfl,rfl,rfl,rfl⟩
    case round =>
     obtain ⟨i,hi,rfl,rfl,rfl,EW⟩:=hrel
     have ew:=EW.out
     subst ew
     by_cases qi:i<t.kids.length
     ·have qi':(i:Int)<(t.kids.length:Int):=by omega
      obtain ⟨k,hk⟩:∃ k,t.kids[i]?=some k:=⟨_,List.getElem?_eq_getElem qi⟩
      obtain ⟨gw,cw,s3,ea,nc,nk⟩:=N8.out.atY i k hk
      injection ea with ea _ ec
      subst ea ec
      have RS:=hid (rulN_step hk)
      have rb:(rulN t.kids i:Int)≤10000:=by have:=rulN_le t.kids i;omega
      have x5:=X8.out.c5
      obtain ⟨n0,n1,n2,n3,n4,n5⟩:=nc
      clear nk hk
      generalize rulN t.kids i=rn9 at *
      cases yo:eqB k.op ⟨#[114,117,108,101]⟩ with
      | true =>
       have z:(k.op.toList==[114,117,108,101])=true:=(eqL _ _).trans yo
       have RS:=hid (show rulN t.kids (i+1)=rn9+1 from by rw [RS.out,yo];rfl)
       clear yo
       go_wp2_with fail
       go_roundg (t.kids.length - (i+1))
       case measure=>omega
       case rel=>exact ⟨i+1,by omega,rfl,by rw [RS.out,Int.natCast_add];rfl,by rw [Int.natCast_add];rfl,rfl⟩
      | false =>
       have z:(k.op.toList==[114,117,108,101])=false:=(eqL _ _).trans yo
       have RS:=hid (show rulN t.kids (i+1)=rn9 from by rw [RS.out,yo];rfl)
       clear yo
       go_wp2_with fail
       go_roundg (t.kids.length - (i+1))
       case measure=>omega
       case rel=>exact ⟨i+1,by omega,rfl,by rw [RS.out],by rw [Int.natCast_add];rfl,rfl⟩
     ·have qi':¬ (i:Int)<(t.kids.length:Int):=by omega
      have e8:rulN t.kids i=l.length:=by rw [rulN_all (by omega),SR.out.1]
      have x5:=X8.out.c5
      rw [e8]
      clear e8
      go_upto_region 18 with fail
      go_loopg [10] (l.length) (fun g iv wr=>∃ i:Nat,i≤l.length∧g=l.length - i∧iv=.int .i64 (i:Nat)∧Hid (Below w8.heap.size w8 wr))
      case atStart=>exact ⟨0,Nat.zero_le _,rfl,rfl,Below.refl _ _⟩
      case round =>
       obtain ⟨wy,ewy⟩:∃ x,x=wr:=⟨_,rfl⟩
       subst ewy
       obtain ⟨i,hi,rfl,rfl,BI⟩:=hrel
       by_cases qi:i<l.length
       ·have qi':(i:Int)<(l.length:Int):=by omega
        obtain ⟨x,hx⟩:∃ x,l[i]?=some x:=⟨_,List.getElem?_eq_getElem qi⟩
        obtain ⟨g,c9,e9,h9⟩:=(O8.out.below BI.out).cl (by omega)
        injection e9 with e91 e92 e93
        subst e91 e93
        have CL2:=hid h9
        have CX:=hid (h9 i x hx)
        have HX:=hid hx
        have X2:=hid (X8.out.next BI.out)
        have N2:=hid (N8.out.gwY BI.out)
        obtain ⟨mm,hm⟩:∃ m,namR t.kids x=m:=⟨_,rfl⟩
        have HM:=hid hm
        have ML:=hid (show mm.length≤1000000 from by rw [← hm];exact namR_len _ _ NK.out)
        have mlb:(mm.length:Int)≤1000000:=by have:=ML.out;omega
        have DZ:=hid (show Below wy.heap.size wy wy.drew from (Below.refl _ _).drew)
        clear h9 hx e92 hm
        go_upto_region 20 with fail
        refine wp_region_held_drew (S:=fun W=>B6 W qn (.string t.op) (.string t.name) (.int .i64 (t.kind:Nat)) (.int .i64 t.n) (.int .i64 (t.pl:Nat)) (.slice sa5 t.kids.length sc5)∧W.cell? ⟨g,i,none⟩=some (.string x)) (by kernel_rfl) ⟨X2.out.next DZ.out,celB DZ.out CX.out⟩ (fun hHeld=>?_)
        refine tk 0 (.agg #[.string t.op,.string t.name,.int .i64 (t.kind:Nat),.int .i64 t.n,.int .i64 (t.pl:Nat),.slice sa5 t.kids.length sc5]) 58 rfl rfl rfl (by kernel_rfl) (fun _ _ _ h=>h) (by rfl) hHeld ?_ ?_
        ·(intro W hW;(try dsimp only at hW);obtain ⟨x0,x1,x2,x3,x4,x5,xz⟩:=hW.1;go_simp)
        try simp only [Act.put,List.setIfInBounds_toArray,List.set_cons_zero,List.set_cons_succ]
        refine tk 1 (.slice (some ⟨g,0,none⟩) l.length c4) 59 rfl rfl rfl (by kernel_rfl) (fun _ _ _ h=>h) (by rfl) hHeld ?_ ?_
        ·(intro W hW;(try dsimp only at hW);go_simp)
        try simp only [Act.put,List.setIfInBounds_toArray,List.set_cons_zero,List.set_cons_succ]
        refine tk 2 (.int .i64 (i:Nat)) 60 rfl rfl rfl (by kernel_rfl) (fun _ _ _ h=>h) (by rfl) hHeld ?_ ?_
        ·(intro W hW;(try dsimp only at hW);go_simp)
        try simp only [Act.put,List.setIfInBounds_toArray,List.set_cons_zero,List.set_cons_succ]
        refine tk 3 (.pointer (some ⟨g,i,none⟩)) 61 rfl rfl rfl (by kernel_rfl) (fun _ _ _ h=>h) (by rfl) hHeld ?_ ?_
        ·(intro W hW;(try dsimp only at hW);go_simp)
        try simp only [Act.put,List.setIfInBounds_toArray,List.set_cons_zero,List.set_cons_succ]
        refine tk 4 (.string x) 62 rfl rfl rfl (by kernel_rfl) (fun _ _ _ h=>h) (by rfl) hHeld ?_ ?_
        ·(intro W hW;(try dsimp only at hW);have c0:=hW.2;go_simp)
        try simp only [Act.put,List.setIfInBounds_toArray,List.set_cons_zero,List.set_cons_succ]
        have KN9:=hid (KN.out x wy.drew _ _ (N2.out.gwY DZ.out))
        unfold NmP at KN9
        rw [HM.out] at KN9
        generalize wy.drew=wz at *
        refine wpAnyH_ready (rs:=[5]) (by kernel_rfl) (by simp) ?_
        refine cons2 rfl rfl (fun K9 hK=>?_)
        go_simp
        refine Calls.mono KN9.out ?_
        rintro e w7 ⟨v7,rfl,o7,b7⟩
        obtain ⟨na,nc,e7⟩:=own_slice o7.row
        rw [sv_len] at e7
        subst e7
        have O7:=hid o7
        have B7:=hid (nextB DZ.out b7)
        clear o7 b7
        go_wp2_with fail
        refine hK.out _ _ ⟨X2.out.next B7.out,celB B7.out CX.out⟩ (fun hX=>?_)
        clear hK K9 hHeld
        have hHeld:=hX
        clear hX
        try simp only [Act.put,List.setIfInBounds_toArray,List.set_cons_zero,List.set_cons_succ]
        refine tk 6 (.slice na mm.length nc) 11 rfl rfl rfl (by kernel_rfl) (fun _ _ _ h=>h) (by rfl) hHeld ?_ ?_
        ·(intro W hW;(try dsimp only at hW);go_simp)
        try simp only [Act.put,List.setIfInBounds_toArray,List.set_cons_zero,List.set_cons_succ]
        refine wpAnyH_done (by kernel_rfl) ?_ _
        have B7W:=hid (nextB BI.out B7.out)
        clear X2 N2 DZ CX KN9
        go_upto_region 22 with fail
        go_loopg [12] (mm.length) (fun g kv wr=>∃ k:Nat,k≤mm.length∧g=mm.length - k∧kv=.int .i64 (k:Nat)∧Hid (Below w7.heap.size w7 wr))
        case atStart=>exact ⟨0,Nat.zero_le _,rfl,rfl,Below.refl _ _⟩
        case round =>
         obtain ⟨wk,ewk⟩:∃ x,x=wr:=⟨_,rfl⟩
         subst ewk
         obtain ⟨k,hk,rfl,rfl,BK⟩:=hrel
         have CLK:=hid (fun (j:Nat) (z:ByteArray) (h:l[j]?=some z)=>celB BK.out (celB B7.out (CL2.out j z h)))
         have CXK:=hid (CLK.out i x HX.out)
         by_cases qk:k<mm.length
         ·have qk':(k:Int)<(mm.length:Int):=by omega
          obtain ⟨y,hy⟩:∃ y,mm[k]?=some y:=⟨_,List.getElem?_eq_getElem qk⟩
          obtain ⟨gm,cm,em,hm⟩:=O7.out.cl (by omega)
          injection em with em1 em2 em3
          subst em1 em3
          have CY:=hid (celB BK.out (hm k y hy))
          have AY:=hid (show befN l y i=true from by
           obtain ⟨j,j1,j2⟩:=SR.out.2.2 i x y HX.out (by rw [HM.out];exact List.mem_iff_getElem?.2 ⟨k,hy⟩)
           exact befN_of j1 j2)
          clear hm em2 hy
          go_upto_region 26 with fail
          go_loopg [13,14] (i) (fun g av jv wr=>∃ j:Nat,j≤i∧g=i - j∧av=.bool (befN l y j)∧jv=.int .i64 (j:Nat)∧Hid (Below wk.heap.size wk wr))
          case atStart=>exact ⟨0,Nat.zero_le _,rfl,rfl,rfl,Below.refl _ _⟩
          case round =>
           obtain ⟨j,hj,rfl,rfl,rfl,BJ⟩:=hrel
           by_cases qj:j<i
           ·have qj':(j:Int)<(i:Int):=by omega
            have qj2:(j:Int)<(l.length:Int):=by omega
            obtain ⟨z,hz⟩:∃ z,l[j]?=some z:=⟨_,List.getElem?_eq_getElem (by omega)⟩
            have cz:=celB BJ.out (CLK.out j z hz)
            have cy:=celB BJ.out CY.out
            have EB:=hid (befN_step (x:=y) hz)
            clear hz
            cases a9:befN l y j with
            | true =>
             have EB:=hid (show befN l y (j+1)=true from by rw [EB.out,a9];rfl)
             clear a9
             go_upto_region 28 with fail
             go_quiet (fail)
             go_wp2_with fail
             go_roundg (i - (j+1))
             case measure=>omega
             case rel=>exact ⟨j+1,by omega,rfl,by rw [EB.out],by rw [Int.natCast_add];rfl,nextB BJ.out (drewN_below wr _)⟩
            | false =>
             cases b9:eqB z y with
             | true =>
              have z1:(z.toList==y.toList)=true:=(eqB_is _ _).trans b9
              have EB:=hid (show befN l y (j+1)=true from by rw [EB.out,a9,b9];rfl)
              clear a9 b9
              go_upto_region 28 with fail
              go_quiet (fail)
              go_wp2_with fail
              go_roundg (i - (j+1))
              case measure=>omega
              case rel=>exact ⟨j+1,by omega,rfl,by rw [EB.out],by rw [Int.natCast_add];rfl,nextB BJ.out (drewN_below wr _)⟩
             | false =>
              have z1:(z.toList==y.toList)=false:=(eqB_is _ _).trans b9
              have EB:=hid (show befN l y (j+1)=false from by rw [EB.out,a9,b9];rfl)
              clear a9 b9
              go_upto_region 28 with fail
              go_quiet (fail)
              go_wp2_with fail
              go_roundg (i - (j+1))
              case measure=>omega
              case rel=>exact ⟨j+1,by omega,rfl,by rw [EB.out],by rw [Int.natCast_add];rfl,nextB BJ.out (drewN_below wr _)⟩
           ·have qj':¬ (j:Int)<(i:Int):=by omega
            have e9:befN l y j=true:=by rw [show j=i by omega];exact AY.out
            rw [e9]
            clear e9
            go_wp2_with fail
            go_roundg (mm.length - (k+1))
            case measure=>omega
            case rel=>exact ⟨k+1,by omega,rfl,by rw [Int.natCast_add];rfl,nextB BK.out BJ.out⟩
         ·have qk':¬ (k:Int)<(mm.length:Int):=by omega
          go_upto_region 32 with fail
          go_loopg [15] (i) (fun g jv wr=>∃ j:Nat,j≤i∧g=i - j∧jv=.int .i64 (j:Nat)∧Hid (Below wk.heap.size wk wr))
          case atStart=>exact ⟨0,Nat.zero_le _,rfl,rfl,Below.refl _ _⟩
          case round =>
           obtain ⟨j,hj,rfl,rfl,BJ⟩:=hrel
           by_cases qj:j<i
           ·have qj':(j:Int)<(i:Int):=by omega
            have qj2:(j:Int)<(l.length:Int):=by omega
            obtain ⟨z,hz⟩:∃ z,l[j]?=some z:=⟨_,List.getElem?_eq_getElem (by omega)⟩
            have cz:=celB BJ.out (CLK.out j z hz)
            have cx:=celB BJ.out CXK.out
            have z1:(z.toList==x.toList)=false:=(eqB_is _ _).trans (nd_ne SR.out.2.1 hz HX.out qj)
            clear hz
            go_upto_region 34 with fail
            go_quiet (fail)
            go_wp2_with fail
            go_roundg (i - (j+1))
            case measure=>omega
            case rel=>exact ⟨j+1,by omega,rfl,by rw [Int.natCast_add];rfl,nextB BJ.out (drewN_below wr _)⟩
           ·have qj':¬ (j:Int)<(i:Int):=by omega
            go_wp2_with fail
            go_roundg (l.length - (i+1))
            case measure=>omega
            case rel=>exact ⟨i+1,by omega,rfl,by rw [Int.natCast_add];rfl,nextB (nextB B7W.out BK.out) BJ.out⟩
       ·have qi':¬ (i:Int)<(l.length:Int):=by omega
        go_wp2_with fail
        go_returns
        exact ⟨rfl,nextB P8.out BI.out⟩
 ·have hs':(2500:Int)<(text.size:Int):=by omega
  clear hs hT
  go_enter Tryz.func5,Tryz.ntmps5
  go_wp2_with (go_at_call 15;(with_reducible refine Calls.mono KA.out ?_);rintro e w4 ⟨rfl,b4⟩;have B4:=hid b4;clear b4)
  go_returns
  exact ⟨rfl,B4.out⟩
end Go.Proofs.YteknljnjcoehoaaGreatDoor
