/- Parts of the proof. -/
import Derived.Test.YtbeahnehjannpaaDoorKC
import Derived.Test.YtbeahnehjannpaaDoorKY
import Derived.Test.YtbeahnehjannpaaDoorKB
import Derived.WalkMore
import Derived.Laws.MakeOwn
import Derived.Deep.LoopGhost
import Derived.Deep.CutBlock
import Derived.Deep.CutRange
import Derived.Deep.DeepCutAuto
namespace Go.Proofs.YtbeahnehjannpaaDoor
open Go.RowKit
set_option linter.unusedVariables false
set_option linter.unusedSimpArgs false
def SwP (s:ByteArray) (k:Nat) (wr:World) (q7:Nat) (s8:Value) (wx:World):Prop :=
 match wd (tl s k) with
 | none=>s8=.int .i64 0∧∃ v0 v1 v2 v3,X4 wr wx q7 v0 v1 v2 v3
 | some (kk,n,v)=>s8=.int .i64 (n:Nat)∧X4 wr wx q7 (.int .i64 (kk:Nat)) (.string (s.extract k (k+n))) (.int .i64 (v:Nat)) (.int .i64 (k:Nat))
theorem SwP.no {s:ByteArray} {k:Nat} {wr:World} {q7:Nat} {s8:Value} {wx:World} (h:SwP s k wr q7 s8 wx) (hw:wd (tl s k)=none):s8=.int .i64 0∧∃ v0 v1 v2 v3,X4 wr wx q7 v0 v1 v2 v3:=by
 unfold SwP at h
 rw [hw] at h
 exact h
theorem SwP.yes {s:ByteArray} {k:Nat} {wr:World} {q7:Nat} {s8:Value} {wx:World} {kk n v:Nat} (h:SwP s k wr q7 s8 wx) (hw:wd (tl s k)=some (kk,n,v)):s8=.int .i64 (n:Nat)∧X4 wr wx q7 (.int .i64 (kk:Nat)) (.string (s.extract k (k+n))) (.int .i64 (v:Nat)) (.int .i64 (k:Nat)):=by
 unfold SwP at h
 rw [hw] at h
 exact h
theorem swN {s:ByteArray} {k:Nat} {wr:World} {q7:Nat} {wx:World} {v0 v1 v2 v3:Value} (hw:wd (tl s k)=none) (h:X4 wr wx q7 v0 v1 v2 v3):SwP s k wr q7 (.int .i64 0) wx:=by
 unfold SwP
 rw [hw]
 exact ⟨rfl,_,_,_,_,h⟩
theorem swY {s:ByteArray} {k:Nat} {wr:World} {q7:Nat} {wx:World} {kk n v:Nat} (hw:wd (tl s k)=some (kk,n,v)) (h:X4 wr wx q7 (.int .i64 (kk:Nat)) (.string (s.extract k (k+n))) (.int .i64 (v:Nat)) (.int .i64 (k:Nat))):SwP s k wr q7 (.int .i64 (n:Nat)) wx:=by
 unfold SwP
 rw [hw]
 exact ⟨rfl,h⟩
theorem X4.set1 {w0 w:World} {b:Nat} {z0 z1 z2 z3:Value} (h:X4 w0 w b z0 z1 z2 z3) (v1:Value):X4 w0 (w.setCell ⟨b,1,none⟩ v1) b z0 v1 z2 z3:=by
 have ne:∀ i j:Nat,i≠j→(⟨b,i,none⟩:Addr)≠⟨b,j,none⟩:=fun i j h k=>by injection k with _ k;exact h k
 exact ⟨(World.cell?_setCell_other _ _ _ _ (ne _ _ (by decide))).trans h.c0,World.cell?_setCell_same _ _ _ h.c1,(World.cell?_setCell_other _ _ _ _ (ne _ _ (by decide))).trans h.c2,(World.cell?_setCell_other _ _ _ _ (ne _ _ (by decide))).trans h.c3,fun o=>by simpa using h.fz o,h.bl.setCell (p:=⟨b,1,none⟩) h.ge _,h.ge⟩
set_option maxRecDepth 100000 in
set_option maxHeartbeats 8000000 in
theorem YCut_any (s:ByteArray) (w:World) (hs:s.size≤3000):Calls Tryd.prog 25 #[.string s] w fun e w'=>CutY s w e w':=by
 obtain ⟨i0,hi,hz0,hz1,hz2⟩:=info_parts ywordInfo
 obtain ⟨w1,hm,o1,g1⟩:=run_make_own (P:=Tryd.prog) w w.heap.size 51 58 i0 _ 4 Tryd.underlying51 hi hz0 hz1 .i64 .i64 0 (by omega) (by decide) (Nat.le_refl _)
 have hm:(Instr.makeSlice 51 (.int .i64 0) (.int .i64 0)).run Tryd.prog w=.ok (.slice (some ⟨w.heap.size,0,none⟩) 0 0) w1:=hm
 have O1:=hid (show Rw w1 w.heap.size 58 s (.slice (some ⟨w.heap.size,0,none⟩) 0 0) [] from o1)
 have B1:=hid (show Below w.heap.size w w1 from (Below.refl _ _).grown g1 (Nat.le_refl _) (fun k hk=>by cases hk))
 clear hi hz0 hz1 hz2 o1 g1
 go_enter Tryd.func25,Tryd.ntmps25
 go_wp2_with fail
 go_loopg [4,5] (s.size+1) (fun g lv av wr=>∃ (R:List Wd) (k:Nat) (l0:Value),l0=lv∧k≤s.size∧g=s.size+1 - k∧R.length≤k∧av=.int .i64 (k:Nat)∧Hid (Rw wr w.heap.size 58 s lv R)∧Hid (Below w.heap.size w wr)∧Hid (Jn s R k))
 case atStart=>exact ⟨[],0,_,rfl,Nat.zero_le _,rfl,Nat.le_refl _,rfl,O1,B1,Jn.start s⟩
 case round =>
  clear O1 B1
  obtain ⟨R,k,lv,rfl,hk,rfl,hR,rfl,HR,HB,HJ⟩:=hrel
  by_cases q:k<s.size
  ·have q':(k:Int)<(s.size:Int):=by omega
   have xi:=congrArg (fun c:UInt8=>(c.toNat:Int)) (bt_at q)
   cases x1:blB (bt s k).toNat
   ·by_cases x2:((bt s k).toNat:Int)=35
    ·skip
     have NJ:=hid <| HJ.out.hash q (by omega)
     have c0:1≤runC (tl s k):=by rw [tl_cons q];unfold runC;rw [if_neg (by omega)];omega
     rw [x2] at xi x1
     have x1':((35:Int)==32 || (35:Int)==9 || (35:Int)==10 || (35:Int)==13)=false:=by decide
     go_wp2_with fail
     go_loopg [5] (s.size+1 - k) (fun g av wy=>∃ j:Nat,k≤j∧j≤s.size∧g=s.size+1 - j∧av=.int .i64 (j:Nat)∧wr=wy∧Hid (j+runC (tl s j)=k+runC (tl s k)))
     case atStart=>exact ⟨k,Nat.le_refl _,hk,rfl,rfl,rfl,rfl⟩
     case round =>
      obtain ⟨j,kj,hj,rfl,rfl,rfl,hr⟩:=hrel
      by_cases qj:j<s.size
      ·have qj':(j:Int)<(s.size:Int):=by omega
       have xj:=congrArg (fun c:UInt8=>(c.toNat:Int)) (bt_at qj)
       by_cases z:((bt s j).toNat:Int)=10
       ·have hj2:j=k+runC (tl s k):=by
         rw [← hr.out,runC_cons qj,if_pos (by omega)]
         rfl
        have NJ2:Hid (Jn s R j):=by show Jn s R j;rw [hj2];exact NJ.out
        have lt:k+1≤j:=by omega
        clear hj2
        rw [z] at xj
        go_wp2
        go_roundg (s.size+1 - j)
        case measure=>omega
        case rel=>exact ⟨R,j,_,rfl,hj,rfl,by omega,rfl,HR,HB,NJ2⟩
       ·have z':(((bt s j).toNat:Int) != 10)=true:=bnet z
        have HX:Hid (j+1+runC (tl s (j+1))=k+runC (tl s k)):=by
         have:=hr.out
         rw [runC_cons qj,if_neg (by omega)] at this
         show _=_
         omega
        go_wp2
        go_roundg (s.size+1 - (j+1))
        case measure=>omega
        case rel=>exact ⟨j+1,by omega,by omega,rfl,by rw [Int.natCast_add];rfl,rfl,HX⟩
      ·have qj':¬ (j:Int)<(s.size:Int):=by omega
       obtain rfl:j=s.size:=by omega
       have HJX:Hid (Jn s R s.size):=by
        have e:s.size=k+runC (tl s k):=by rw [← hr.out,tl_nil (Nat.le_refl _)];rfl
        show Jn s R s.size
        rw [e]
        exact NJ.out
       have lt:k+1≤s.size:=by omega
       go_wp2
       go_roundg (s.size+1 - s.size)
       case measure=>omega
       case rel=>exact ⟨R,s.size,_,rfl,Nat.le_refl _,rfl,by omega,rfl,HR,HB,HJX⟩
    ·have x2':(((bt s k).toNat:Int)==35)=false:=beqf x2
     have NBL:=hid (show isBl (bt s k)=false from x1)
     have NE:=hid (show (bt s k).toNat≠35 from by omega)
     have x1':(((bt s k).toNat:Int)==32 || ((bt s k).toNat:Int)==9 || ((bt s k).toNat:Int)==10 || ((bt s k).toNat:Int)==13)=false:=x1
     simp only [Bool.or_eq_false_iff] at x1'
     obtain ⟨⟨⟨u1,u2⟩,u3⟩,u4⟩:=x1'
     have QN:=X4.new wr 58 (.int .i64 0) (.string ⟨#[]⟩) (.int .i64 0) (.int .i64 (k:Nat))
     have QH:=hid QN
     clear QN
     go_upto_block 4 with fail
     have lq:wr.heap.size=wr.heap.size:=rfl
     generalize wr.alloc (.cells #[.int .i64 0,.string ⟨#[]⟩,.int .i64 0,.int .i64 (k:Nat)] 58)=w7 at *
     generalize hq7:wr.heap.size=q7 at *
     have HQ7:=hid hq7
     clear hq7 lq
     go_cut [8,9,10,11,12] from 53 to 195 (fun s8 s9 s10 s11 s12 wx=>SwP s k wr q7 s8 wx)
     case first =>
      cases x3:leB (bt s k).toNat
      ·cases x4:dgB (bt s k).toNat
       ·by_cases x5:((bt s k).toNat:Int)=36
        ·as_aux_lemma =>
          have M0:=hid (show rnN s (k+1)=0→wd (tl s k)=none from fun h=>by rw [wd_mon q x3 x5];exact monY_0 h)
          have MY:=hid (show rnN s (k+1)≠0→mtB (mX s k (rnN s (k+1)))=true→wd (tl s k)=some (4,1+rnN s (k+1)+(if cB s (rnN s (k+1)) (k+1+rnN s (k+1)) then 3 else 0),mtV (mX s k (rnN s (k+1)))) from fun h1 h2=>by rw [wd_mon q x3 x5];exact monY_yes q h1 h2)
          have MN:=hid (show rnN s (k+1)≠0→mtB (mX s k (rnN s (k+1)))=false→wd (tl s k)=none from fun h1 h2=>by rw [wd_mon q x3 x5];exact monY_no q h1 h2)
          have MH:=hid fun w=>ymon_at s k w q (by omega)
          have R1:=hid (show ∀ w,Calls Tryd.prog 37 #[.string s,.int .i64 ((k:Int)+1)] w fun e w'=>e=.returned (.int .i64 (rnN s (k+1):Nat))∧Below w.heap.size w w' from fun w=>by have:=yrun_any s (k+1) w (by omega) (by omega);rw [Int.natCast_add] at this;exact this)
          have k1:k+1+rnN s (k+1)≤s.size:=dEnd_le (s:=s) (a:=k+1) q
          have CF:=hid (show cB s (rnN s (k+1)) (k+1+rnN s (k+1))=decide (0<rnN s (k+1)∧k+1+rnN s (k+1)<s.size∧(bt s (k+1+rnN s (k+1))).toNat=46∧rnN s (k+1+rnN s (k+1)+1)=2) from rfl)
          have MC:=hid (show mC s (rnN s (k+1)) (k+1+rnN s (k+1))=if cB s (rnN s (k+1)) (k+1+rnN s (k+1)) then s.extract (k+1+rnN s (k+1)+1) (k+1+rnN s (k+1)+3) else ⟨#[]⟩ from rfl)
          have x5':(((bt s k).toNat:Int)==36)=true:=beq_iff_eq.2 x5
          clear x5 x2 u1 u2 u3 u4 x1
          generalize mX s k (rnN s (k+1))=XX at *
          generalize mC s (rnN s (k+1)) (k+1+rnN s (k+1))=CS at *
          generalize cB s (rnN s (k+1)) (k+1+rnN s (k+1))=CB at *
          generalize rnN s (k+1)=K at *
          go_upto_region 26 with (first | (go_at_call 33;refine (yletter_any _ _).mono ?_;rintro e w5 ⟨rfl,rfl⟩) | (go_at_call 34;refine (ydigit_any _ _).mono ?_;rintro e w6 ⟨rfl,rfl⟩))
          go_wp2_with fail
          refine Calls.mono (R1.out _) ?_
          rintro e w8 ⟨rfl,hb8⟩
          have Y1:=hid (QH.out.next hb8)
          clear QH hb8 R1
          go_upto_region 29 with fail
          go_cut [155] from 129 to 155 (fun x wx=>x=.bool CB∧Hid (X4 wr wx q7 (.int .i64 0) (.string ⟨#[]⟩) (.int .i64 0) (.int .i64 (k:Nat))))
          case first =>
           by_cases z0:K=0
           ·have E:=hid (show CB=false from by rw [CF.out];exact decide_eq_false (by omega))
            have z0':decide ((0:Int)<(K:Int))=false:=decide_eq_false (by omega)
            have z0'':decide (0<K)=false:=decide_eq_false (by omega)
            have z3:¬ 0<K:=by omega
            clear M0 MY MN MH MC CF
            subst z0
            go_wp2_with fail
            go_meet
            case rel=>exact ⟨by rw [E.out],Y1⟩
           ·have z0':(0:Int)<(K:Int):=by omega
            by_cases z1:k+(1+K)<s.size
            ·have z1':(k:Int)+(1+(K:Int))<(s.size:Int):=by omega
             have xe:=congrArg (fun c:UInt8=>(c.toNat:Int)) (bt_at z1)
             by_cases z2:((bt s (k+(1+K))).toNat:Int)=46
             ·have R2:=hid (show ∀ w,Calls Tryd.prog 37 #[.string s,.int .i64 ((k:Int)+(1+(K:Int))+1)] w fun e w'=>e=.returned (.int .i64 (rnN s (k+(1+K)+1):Nat))∧Below w.heap.size w w' from fun w=>by have:=yrun_any s (k+(1+K)+1) w (by omega) (by omega);rw [Int.natCast_add,Int.natCast_add,Int.natCast_add] at this;exact this)
              have E:=hid (show CB=(((rnN s (k+(1+K)+1):Nat):Int)==2) from by
               rw [CF.out,show k+1+K=k+(1+K) by omega,Bool.eq_iff_iff,decide_eq_true_iff,beq_iff_eq]
               constructor
               ·intro h;have:=h.2.2.2;omega
               ·intro h;exact ⟨by omega,z1,by omega,by omega⟩)
              rw [z2] at xe
              generalize rnN s (k+(1+K)+1)=r at *
              clear M0 MY MN MH MC CF z2
              go_wp2_with (go_at_call 37;with_reducible refine Calls.mono (R2.out _) ?_;rintro e w9 ⟨rfl,hb9⟩)
              go_meet
              case rel=>exact ⟨by rw [E.out],Y1.out.next hb9⟩
             ·have E:=hid (show CB=false from by rw [CF.out,show k+1+K=k+(1+K) by omega];exact decide_eq_false (fun h=>z2 (by have:=h.2.2.1;omega)))
              have z2':(((bt s (k+(1+K))).toNat:Int)==46)=false:=beqf z2
              clear M0 MY MN MH MC CF z2
              go_wp2_with fail
              go_meet
              case rel=>exact ⟨by rw [E.out],Y1⟩
            ·have E:=hid (show CB=false from by rw [CF.out];exact decide_eq_false (fun h=>z1 (by have:=h.2.1;omega)))
             have z1':¬ (k:Int)+(1+(K:Int))<(s.size:Int):=by omega
             clear M0 MY MN MH MC CF
             go_wp2_with fail
             go_meet
             case rel=>exact ⟨by rw [E.out],Y1⟩
          case rest =>
           clear Y1
           obtain ⟨rfl,Y1⟩:=hcut
           have k2:(k:Int)+1+(K:Int)≤(s.size:Int):=by omega
           cases CB with
           | true =>
            obtain ⟨c1,c2,c3,c4⟩:=of_decide_eq_true CF.out.symm
            have k3:k+1+K+3≤s.size:=by have:=dEnd_le (s:=s) (a:=k+1+K+1) c2;rw [dEnd_rn,c4] at this;omega
            have k3':(k:Int)+(1+(K:Int))+3≤(s.size:Int):=by omega
            have hCS:CS=s.extract (k+(1+K)+1) (k+(1+K)+3):=by rw [MC.out,if_pos rfl];congr 1 <;> omega
            rw [hCS] at MH
            have MY2:=hid (show mtB XX=true→wd (tl s k)=some (4,1+K+3,mtV XX) from fun h=>MY.out (by omega) h)
            have MN2:=hid (show mtB XX=false→wd (tl s k)=none from fun h=>MN.out (by omega) h)
            have kz:((K:Int)==0)=false:=beqf (by omega)
            clear MC CF M0 MY MN hCS c1 c2 c3 c4
            generalize mtV XX=V at *
            generalize mtB XX=B at *
            cases B with
            | false =>
             go_wp2_with (go_at_call 38;with_reducible refine Calls.mono (MH.out _) ?_;rintro e w9 ⟨rfl,rfl⟩)
             go_meet
             case rel=>exact swN (MN2.out (by first | exact rfl | trivial)) Y1.out
            | true =>
             go_upto_region 35 with (go_at_call 38;with_reducible refine Calls.mono (MH.out _) ?_;rintro e w9 ⟨rfl,rfl⟩)
             have Y3:=hid (Y1.out.set (.int .i64 4) (.string (s.extract k (k+(1+K+3)))) (.int .i64 (V:Nat)) (.int .i64 (k:Nat)))
             obtain ⟨c0,c1,c2,c3,cf,_,_⟩:=Y1.out
             go_wp2
             go_meet
             case rel=>exact swY (n:=1+K+3) (MY2.out (by first | exact rfl | trivial)) Y3.out
           | false =>
            have hCS:CS=⟨#[]⟩:=by rw [MC.out];rfl
            rw [hCS] at MH
            by_cases z0:K=0
            ·have W:=hid (M0.out z0)
             have kz:((K:Int)==0)=true:=beq_iff_eq.2 (by omega)
             clear MC CF M0 MY MN hCS z0
             generalize mtV XX=V at *
             generalize mtB XX=B at *
             go_wp2_with (go_at_call 38;with_reducible refine Calls.mono (MH.out _) ?_;rintro e w9 ⟨rfl,rfl⟩)
             go_meet
             case rel=>exact swN W.out Y1.out
            ·have MY2:=hid (show mtB XX=true→wd (tl s k)=some (4,1+K,mtV XX) from fun h=>MY.out z0 h)
             have MN2:=hid (show mtB XX=false→wd (tl s k)=none from fun h=>MN.out z0 h)
             have kz:((K:Int)==0)=false:=beqf (by omega)
             clear MC CF M0 MY MN hCS z0
             generalize mtV XX=V at *
             generalize mtB XX=B at *
             cases B with
             | false =>
              go_wp2_with (go_at_call 38;with_reducible refine Calls.mono (MH.out _) ?_;rintro e w9 ⟨rfl,rfl⟩)
              go_meet
              case rel=>exact swN (MN2.out (by first | exact rfl | trivial)) Y1.out
             | true =>
              go_upto_region 35 with (go_at_call 38;with_reducible refine Calls.mono (MH.out _) ?_;rintro e w9 ⟨rfl,rfl⟩)
              have Y3:=hid (Y1.out.set (.int .i64 4) (.string (s.extract k (k+(1+K)))) (.int .i64 (V:Nat)) (.int .i64 (k:Nat)))
              obtain ⟨c0,c1,c2,c3,cf,_,_⟩:=Y1.out
              go_wp2
              go_meet
              case rel=>exact swY (n:=1+K) (MY2.out (by first | exact rfl | trivial)) Y3.out
        ·have x5':(((bt s k).toNat:Int)==36)=false:=beqf x5
         as_aux_lemma =>
          have WE:=wd_sgn q x3 x5 x4
          have SH:=hid fun w=>ysign_any (s.extract k s.size) w (by rw [ByteArray.size_extract];omega) (by rw [ByteArray.size_extract];omega)
          have e1:tl (s.extract k s.size) 0=tl s k:=by
           show (s.extract k s.size).data.toList.drop 0=_
           rw [List.drop_zero,ext_data]
           show (tl s k).take (s.size - k)=_
           rw [List.take_of_length_le (by rw [tl_len];omega)]
          unfold sgT at SH
          rw [e1] at SH
          have sl:sgnN (tl s k)≤2:=by unfold sgnN;split <;> (try split) <;> omega
          have s2:=hid (show sgnN (tl s k)≠0→sgnN (tl s k)≤s.size - k from fun h=>by
           have hw:wd (tl s k)=some (7,sgnN (tl s k),0):=by rw [WE];unfold sgnW;rw [if_neg h]
           have:=(wd_len hw).2
           rw [tl_len] at this
           exact this)
          have W7:=hid (show sgnN (tl s k)≠0→wd (tl s k)=some (7,sgnN (tl s k),0) from fun h=>by rw [WE];unfold sgnW;rw [if_neg h])
          have W0:=hid (show sgnN (tl s k)=0→wd (tl s k)=none from fun h=>by rw [WE];unfold sgnW;rw [if_pos h])
          have TE:=hid (show tx ((tl s k).take (sgnN (tl s k)))=s.extract k (k+sgnN (tl s k)) from by rw [ext_is,show k+sgnN (tl s k) - k=sgnN (tl s k) by omega])
          have tz:(tx ((tl s k).take (sgnN (tl s k)))).size=sgnN (tl s k):=by
           rw [tx_sz,List.length_take,tl_len]
           by_cases h:sgnN (tl s k)=0
           ·omega
           ·have:=s2.out h;omega
          clear WE e1
          generalize tx ((tl s k).take (sgnN (tl s k)))=T at *
          generalize sgnN (tl s k)=n at *
          have Y1:=hid (QH.out.set0 (.int .i64 7))
          obtain ⟨c0,c1,c2,c3,cf,_,_⟩:=QH.out
          go_upto_region 12 with (first | (go_at_call 33;refine (yletter_any _ _).mono ?_;rintro e w5 ⟨rfl,rfl⟩) | (go_at_call 34;refine (ydigit_any _ _).mono ?_;rintro e w6 ⟨rfl,rfl⟩))
          generalize w7.setCell ⟨q7,0,none⟩ (.int .i64 7)=w8 at *
          clear c0 c1 c2 c3 cf QH
          go_wp2_with fail
          refine Calls.mono (SH.out _) ?_
          rintro e w9 ⟨rfl,hb9⟩
          have Y2:=Y1.out.next hb9
          have Y3:=hid (Y2.set1 (.string T))
          obtain ⟨c0,c1,c2,c3,cf,_,_⟩:=Y2
          go_upto_region 13 with fail
          generalize w9.setCell ⟨q7,1,none⟩ (.string T)=w10 at *
          clear c0 c1 c2 c3 cf
          obtain ⟨c0,c1,c2,c3,cf,_,_⟩:=Y3.out
          by_cases z:n=0
          ·have W:=W0.out z
           subst z
           go_wp2
           go_meet
           case rel=>exact swN W Y3.out
          ·have W:=hid (W7.out z)
           go_wp2
           go_meet
           case rel=>exact swY (kk:=7) (v:=0) W.out (by rw [← TE.out];exact Y3.out)
       ·have x5:((bt s k).toNat:Int)≠36:=by have:=dgB_of x4;omega
        as_aux_lemma =>
         have DH:=hid fun w=>ydigits_any s k w q (by omega)
         rw [← wd_num q x3 x5 x4] at DH
         cases hw:wd (tl s k) with
         | none =>
          rw [hw] at DH
          go_upto_region 24 with (first | (go_at_call 33;refine (yletter_any _ _).mono ?_;rintro e w5 ⟨rfl,rfl⟩) | (go_at_call 34;refine (ydigit_any _ _).mono ?_;rintro e w6 ⟨rfl,rfl⟩))
          go_wp2_with fail
          refine Calls.mono (DH.out _) ?_
          rintro e w9 ⟨hL,hb9⟩
          obtain ⟨yk,yt,yn,yb,rfl⟩:∃ k t n b,e=.returned (.tuple #[.agg #[.int .i64 k,.string t,.int .i64 n,.int .i64 b],.int .i64 0]):=hL
          have Y2:=QH.out.next hb9
          have Y3:=hid (Y2.set (.int .i64 yk) (.string yt) (.int .i64 yn) (.int .i64 yb))
          obtain ⟨c0,c1,c2,c3,cf,_,_⟩:=Y2
          have HW:=hid hw
          clear hw
          go_wp2
          go_meet
          case rel=>exact swN HW.out Y3.out
         | some y =>
          obtain ⟨yk,yn,yv⟩:=y
          rw [hw] at DH
          go_upto_region 24 with (first | (go_at_call 33;refine (yletter_any _ _).mono ?_;rintro e w5 ⟨rfl,rfl⟩) | (go_at_call 34;refine (ydigit_any _ _).mono ?_;rintro e w6 ⟨rfl,rfl⟩))
          go_wp2_with fail
          refine Calls.mono (DH.out _) ?_
          rintro e w9 ⟨hL,hb9⟩
          have hL:e=.returned (.tuple #[.agg #[.int .i64 (yk:Nat),.string (s.extract k (k+yn)),.int .i64 (yv:Nat),.int .i64 (k:Nat)],.int .i64 (yn:Nat)]):=hL
          subst hL
          have Y2:=QH.out.next hb9
          have Y3:=hid (Y2.set (.int .i64 (yk:Nat)) (.string (s.extract k (k+yn))) (.int .i64 (yv:Nat)) (.int .i64 (k:Nat)))
          obtain ⟨c0,c1,c2,c3,cf,_,_⟩:=Y2
          have HW:=hid hw
          clear hw
          go_wp2
          go_meet
          case rel=>exact swY HW.out Y3.out
      ·as_aux_lemma =>
        have WE:=wd_let q x3
        have KH:=hid fun w=>ykept_any (s.extract k (nEnd s k)) w
        have WN:=hid (show runN (tl s k)≤32→wd (tl s k)=some (if keptB (s.extract k (nEnd s k)).data.toList then 2 else 1,runN (tl s k),0) from fun h=>by rw [WE];unfold namW;rw [if_pos h,kept_ext])
        have WO:=hid (show ¬ runN (tl s k)≤32→wd (tl s k)=none from fun h=>by rw [WE];unfold namW;rw [if_neg h])
        have nl:=nEnd_le (s:=s) (a:=k) hk
        unfold nEnd at KH WN nl
        clear WE
        generalize keptB (s.extract k (k+runN (tl s k))).data.toList=B at *
        obtain ⟨NN,hNN⟩:∃ NN,NN=runN (tl s k):=⟨_,rfl⟩
        rw [← hNN] at KH WN WO nl
        have HNN:=hid hNN
        clear hNN
        go_wp2_with (first | (go_at_call 33;refine (yletter_any _ _).mono ?_;rintro e w5 ⟨rfl,rfl⟩) | (go_at_call 34;refine (ydigit_any _ _).mono ?_;rintro e w6 ⟨rfl,rfl⟩))
        go_loopg [8] (s.size+1 - k) (fun g nv wy=>∃ n:Nat,k+n≤s.size∧g=s.size+1 - (k+n)∧nv=.int .i64 (n:Nat)∧w7=wy∧Hid (n+runN (tl s (k+n))=NN))
        case atStart=>exact ⟨0,hk,rfl,rfl,rfl,by show 0+runN (tl s (k+0))=NN;rw [HNN.out,Nat.add_zero,Nat.zero_add]⟩
        case round =>
         obtain ⟨n,hn,rfl,rfl,rfl,hr⟩:=hrel
         by_cases qn:k+n<s.size
         ·have qn':(k:Int)+(n:Int)<(s.size:Int):=by omega
          have xn:=congrArg (fun c:UInt8=>(c.toNat:Int)) (bt_at qn)
          cases y1:leB (bt s (k+n)).toNat
          ·cases y2:dgB (bt s (k+n)).toNat
           ·by_cases y3:((bt s (k+n)).toNat:Int)=95
            ·have y3':(((bt s (k+n)).toNat:Int)==95)=true:=beq_iff_eq.2 y3
             have nm:nmB (bt s (k+n)).toNat=true:=by unfold nmB;rw [y1,y2,y3'];rfl
             have HX:=hid (show n+1+runN (tl s (k+(n+1)))=NN from by
              have:=hr.out
              rw [runN_cons qn,if_pos nm] at this
              rw [show k+(n+1)=k+n+1 by omega]
              omega)
             clear nm
             go_wp2_with (first | (go_at_call 33;refine (yletter_any _ _).mono ?_;rintro e w5 ⟨rfl,rfl⟩) | (go_at_call 34;refine (ydigit_any _ _).mono ?_;rintro e w6 ⟨rfl,rfl⟩))
             go_roundg (s.size+1 - (k+(n+1)))
             case measure=>omega
             case rel=>exact ⟨n+1,by omega,rfl,by rw [Int.natCast_add];rfl,rfl,HX⟩
            ·have y3':(((bt s (k+n)).toNat:Int)==95)=false:=beqf y3
             have nm:nmB (bt s (k+n)).toNat=false:=by unfold nmB;rw [y1,y2,y3'];rfl
             have NZ:n=NN:=by rw [← hr.out,runN_cons qn,nm];rfl
             clear nm
             obtain rfl:n=NN:=NZ
             clear hr
             go_upto_region 17 with (first | (go_at_call 33;refine (yletter_any _ _).mono ?_;rintro e w5 ⟨rfl,rfl⟩) | (go_at_call 34;refine (ydigit_any _ _).mono ?_;rintro e w6 ⟨rfl,rfl⟩))
             have Y1:=(QH.out.set0 (.int .i64 1)).set1 (.string (s.extract k (k+n)))
             obtain ⟨c0,c1,c2,c3,cf,_,_⟩:=QH.out
             go_upto_region 19 with fail
             generalize (w7.setCell ⟨q7,0,none⟩ (.int .i64 1)).setCell ⟨q7,1,none⟩ (.string (s.extract k (k+n)))=w8 at *
             have Y1:=hid Y1
             clear c0 c1 c2 c3 cf QH
             obtain ⟨c0,c1,c2,c3,cf,_,_⟩:=Y1.out
             cases B with
             | false =>
              by_cases z:n≤32
              ·have z':¬ (32:Int)<(n:Int):=by omega
               go_wp2_with (go_at_call 35;with_reducible refine Calls.mono (KH.out _) ?_;rintro e w9 ⟨rfl,hb9⟩)
               go_meet
               case rel=>exact swY (WN.out z) (Y1.out.next hb9)
              ·have z':(32:Int)<(n:Int):=by omega
               go_wp2_with (go_at_call 35;with_reducible refine Calls.mono (KH.out _) ?_;rintro e w9 ⟨rfl,hb9⟩)
               go_meet
               case rel=>exact swN (WO.out z) (Y1.out.next hb9)
             | true =>
              go_upto_region 20 with (go_at_call 35;with_reducible refine Calls.mono (KH.out _) ?_;rintro e w9 ⟨rfl,hb9⟩)
              have Y2:=Y1.out.next hb9
              have Y3:=hid (Y2.set0 (.int .i64 2))
              clear c0 c1 c2 c3 cf
              obtain ⟨c0,c1,c2,c3,cf,_,_⟩:=Y2
              go_upto_region 21 with fail
              generalize w9.setCell ⟨q7,0,none⟩ (.int .i64 2)=w10 at *
              clear c0 c1 c2 c3 cf
              by_cases z:n≤32
              ·have z':¬ (32:Int)<(n:Int):=by omega
               go_wp2
               go_meet
               case rel=>exact swY (WN.out z) Y3.out
              ·have z':(32:Int)<(n:Int):=by omega
               go_wp2
               go_meet
               case rel=>exact swN (WO.out z) Y3.out
           ·skip
            have nm:nmB (bt s (k+n)).toNat=true:=by unfold nmB;rw [y1,y2];rfl
            have HX:=hid (show n+1+runN (tl s (k+(n+1)))=NN from by
             have:=hr.out
             rw [runN_cons qn,if_pos nm] at this
             rw [show k+(n+1)=k+n+1 by omega]
             omega)
            clear nm
            go_wp2_with (first | (go_at_call 33;refine (yletter_any _ _).mono ?_;rintro e w5 ⟨rfl,rfl⟩) | (go_at_call 34;refine (ydigit_any _ _).mono ?_;rintro e w6 ⟨rfl,rfl⟩))
            go_roundg (s.size+1 - (k+(n+1)))
            case measure=>omega
            case rel=>exact ⟨n+1,by omega,rfl,by rw [Int.natCast_add];rfl,rfl,HX⟩
          ·skip
           have nm:nmB (bt s (k+n)).toNat=true:=by unfold nmB;rw [y1];rfl
           have HX:=hid (show n+1+runN (tl s (k+(n+1)))=NN from by
            have:=hr.out
            rw [runN_cons qn,if_pos nm] at this
            rw [show k+(n+1)=k+n+1 by omega]
            omega)
           clear nm
           go_wp2_with (first | (go_at_call 33;refine (yletter_any _ _).mono ?_;rintro e w5 ⟨rfl,rfl⟩) | (go_at_call 34;refine (ydigit_any _ _).mono ?_;rintro e w6 ⟨rfl,rfl⟩))
           go_roundg (s.size+1 - (k+(n+1)))
           case measure=>omega
           case rel=>exact ⟨n+1,by omega,rfl,by rw [Int.natCast_add];rfl,rfl,HX⟩
         ·have qn':¬ (k:Int)+(n:Int)<(s.size:Int):=by omega
          have NZ:n=NN:=by rw [← hr.out,tl_nil (by omega)];rfl
          obtain rfl:n=NN:=NZ
          clear hr
          go_upto_region 17 with fail
          have Y1:=(QH.out.set0 (.int .i64 1)).set1 (.string (s.extract k (k+n)))
          obtain ⟨c0,c1,c2,c3,cf,_,_⟩:=QH.out
          go_upto_region 19 with fail
          generalize (w7.setCell ⟨q7,0,none⟩ (.int .i64 1)).setCell ⟨q7,1,none⟩ (.string (s.extract k (k+n)))=w8 at *
          have Y1:=hid Y1
          clear c0 c1 c2 c3 cf QH
          obtain ⟨c0,c1,c2,c3,cf,_,_⟩:=Y1.out
          cases B with
          | false =>
           by_cases z:n≤32
           ·have z':¬ (32:Int)<(n:Int):=by omega
            go_wp2_with (go_at_call 35;with_reducible refine Calls.mono (KH.out _) ?_;rintro e w9 ⟨rfl,hb9⟩)
            go_meet
            case rel=>exact swY (WN.out z) (Y1.out.next hb9)
           ·have z':(32:Int)<(n:Int):=by omega
            go_wp2_with (go_at_call 35;with_reducible refine Calls.mono (KH.out _) ?_;rintro e w9 ⟨rfl,hb9⟩)
            go_meet
            case rel=>exact swN (WO.out z) (Y1.out.next hb9)
          | true =>
           go_upto_region 20 with (go_at_call 35;with_reducible refine Calls.mono (KH.out _) ?_;rintro e w9 ⟨rfl,hb9⟩)
           have Y2:=Y1.out.next hb9
           have Y3:=hid (Y2.set0 (.int .i64 2))
           clear c0 c1 c2 c3 cf
           obtain ⟨c0,c1,c2,c3,cf,_,_⟩:=Y2
           go_upto_region 21 with fail
           generalize w9.setCell ⟨q7,0,none⟩ (.int .i64 2)=w10 at *
           clear c0 c1 c2 c3 cf
           by_cases z:n≤32
           ·have z':¬ (32:Int)<(n:Int):=by omega
            go_wp2
            go_meet
            case rel=>exact swY (WN.out z) Y3.out
           ·have z':(32:Int)<(n:Int):=by omega
            go_wp2
            go_meet
            case rel=>exact swN (WO.out z) Y3.out
     case rest =>
      clear QH
      cases hw:wd (tl s k) with
      | none =>
       have FJ:=hid <| HJ.out.bad q NBL.out NE.out hw
       obtain ⟨rfl,v0,v1,v2,v3,QZ⟩:=SwP.no hcut hw
       have BB:=hid (nextB HB.out QZ.bl)
       clear hw hcut
       go_wp2
       go_ret2
       refine ⟨BB.out,?_⟩
       rw [FJ.out]
       rfl
      | some y =>
       obtain ⟨yk,yn,yv⟩:=y
       have NJ:=hid <| HJ.out.word q NBL.out NE.out hw
       obtain ⟨n0,n1⟩:=wd_len hw
       rw [tl_len] at n1
       obtain ⟨rfl,QZ0⟩:=SwP.yes hcut hw
       generalize hT:s.extract k (k+yn)=T at *
       have HT:=hid hT
       have QZ:=hid QZ0
       clear hw hcut hT QZ0
       have nz:((yn:Int)==0)=false:=beqf (by omega)
       have X8:=X4.new wc 58 (.int .i64 (yk:Nat)) (.string T) (.int .i64 (yv:Nat)) (.int .i64 (k:Nat))
       have R8:=hid ((HR.out.next QZ.out.bl).next X8.bl)
       have B8:=hid (nextB (nextB HB.out QZ.out.bl) X8.bl)
       have bs8:=B8.out.size
       have CH:=hid <| X8.wc (s:=s) (y:=(yk,yn,yv,k)) (by unfold wC;dsimp only;rw [HT.out])
       obtain ⟨c0,c1,c2,c3,cf,_,_⟩:=QZ.out
       clear X8
       go_wp2_with (at_builtin;refine wpList_addY rfl (.tmp 199) (.tmp 201) rfl s w.heap.size _ R (yk,yn,yv,k) rfl R8.out wc.heap.size rfl CH.out (by omega) (by first | exact bs8 | (simp;omega)) ?_;intro v2 w2 o2 g2;have B2:=hid (R8.out.grow B8.out (Nat.le_refl _) g2);have O2:=hid o2;clear o2 g2)
       go_roundg (s.size+1 - (k+yn))
       case measure=>omega
       case rel=>exact ⟨R ++ [(yk,yn,yv,k)],k+yn,_,rfl,by omega,rfl,by simp;omega,by rw [Int.natCast_add],O2,B2,NJ⟩
   ·have NJ:=hid <| HJ.out.blank q x1
    unfold blB at x1
    go_wp2_with fail
    all_goals go_roundg (s.size+1 - (k+1))
    all_goals first | omega | exact ⟨R,k+1,_,rfl,by omega,rfl,by omega,by rw [Int.natCast_add];rfl,HR,HB,NJ⟩
  ·have q':¬ (k:Int)<(s.size:Int):=by omega
   obtain rfl:k=s.size:=by omega
   have HJX:=HJ
   have FJ:=hid <| HJX.out.fin (Nat.le_refl _)
   have NB:=X4.new wr 58 (.int .i64 0) (.string ⟨#[]⟩) (.int .i64 0) (.int .i64 (s.size:Nat))
   have CH:=hid (NB.wc (s:=s) (y:=(0,0,0,s.size)) (by unfold wC;dsimp only;rw [ext_nil];rfl))
   have RN:=hid <| HR.out.next NB.bl
   have BN:=hid <| nextB HB.out NB.bl
   have bs':=BN.out.size
   clear NB
   go_wp2_with (at_builtin;refine wpList_addY rfl (.tmp 206) (.tmp 210) rfl s w.heap.size _ R (0,0,0,s.size) rfl RN.out wr.heap.size rfl CH.out (by omega) (by first | exact bs' | (simp;omega)) ?_;intro v2 w2 o2 g2)
   have B2:=RN.out.grow BN.out (Nat.le_refl _) g2
   go_ret2
   refine ⟨B2,?_⟩
   rw [FJ.out]
   exact ⟨v2,rfl,o2⟩
end Go.Proofs.YtbeahnehjannpaaDoor
