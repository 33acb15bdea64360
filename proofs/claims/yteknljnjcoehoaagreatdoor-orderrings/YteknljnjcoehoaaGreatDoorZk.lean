/- Parts of the proof. -/
import Derived.Test.YteknljnjcoehoaaGreatDoorPs
import Derived.Test.YteknljnjcoehoaaGreatDoorZc
import Derived.Test.YteknljnjcoehoaaGreatDoorZd
import Derived.Test.YteknljnjcoehoaaGreatDoorZe
import Derived.Test.YteknljnjcoehoaaGreatDoorZf
import Derived.Test.YteknljnjcoehoaaGreatDoorZg
import Derived.Test.YteknljnjcoehoaaGreatDoorZh
import Derived.Test.YteknljnjcoehoaaGreatDoorZi
import Derived.Test.YteknljnjcoehoaaGreatDoorZj
namespace Go.Proofs.YteknljnjcoehoaaGreatDoor
open Go.RowKit
set_option linter.unusedVariables false
set_option linter.unusedSimpArgs false
theorem row20:∀ c,c<20→ckW 20 c=true
 | 0,_=>row20_0
 | 1,_=>row20_1
 | 2,_=>row20_2
 | 3,_=>row20_3
 | 4,_=>row20_4
 | 5,_=>row20_5
 | 6,_=>row20_6
 | 7,_=>row20_7
 | 8,_=>row20_8
 | 9,_=>row20_9
 | 10,_=>row20_10
 | 11,_=>row20_11
 | 12,_=>row20_12
 | 13,_=>row20_13
 | 14,_=>row20_14
 | 15,_=>row20_15
 | 16,_=>row20_16
 | 17,_=>row20_17
 | 18,_=>row20_18
 | 19,_=>row20_19
 | c+20,h=>absurd h (by omega)
theorem rings_all:∀ n,1≤n→n≤20→ckR n=true
 | 0,h,_=>absurd h (by omega)
 | 1,_,_=>ring1
 | 2,_,_=>ring2
 | 3,_,_=>ring3
 | 4,_,_=>ring4
 | 5,_,_=>ring5
 | 6,_,_=>ring6
 | 7,_,_=>ring7
 | 8,_,_=>ring8
 | 9,_,_=>ring9
 | 10,_,_=>ring10
 | 11,_,_=>ring11
 | 12,_,_=>ring12
 | 13,_,_=>ring13
 | 14,_,_=>ring14
 | 15,_,_=>ring15
 | 16,_,_=>ring16
 | 17,_,_=>ring17
 | 18,_,_=>ring18
 | 19,_,_=>ring19
 | 20,_,_=>ring20
 | n+21,_,h=>absurd h (by omega)
theorem rows_all:∀ n,1≤n→n≤20→∀ c,c<n→ckW n c=true
 | 0,h,_=>absurd h (by omega)
 | 1,_,_=>row1
 | 2,_,_=>row2
 | 3,_,_=>row3
 | 4,_,_=>row4
 | 5,_,_=>row5
 | 6,_,_=>row6
 | 7,_,_=>row7
 | 8,_,_=>row8
 | 9,_,_=>row9
 | 10,_,_=>row10
 | 11,_,_=>row11
 | 12,_,_=>row12
 | 13,_,_=>row13
 | 14,_,_=>row14
 | 15,_,_=>row15
 | 16,_,_=>row16
 | 17,_,_=>row17
 | 18,_,_=>row18
 | 19,_,_=>row19
 | 20,_,_=>row20
 | n+21,_,h=>absurd h (by omega)
theorem rgA_str (i:Nat):(⟨#[114,117,108,101,32,114]⟩ ++ tx (dec i)) ++ ⟨#[32,99,111,117,110,116,32,61,32]⟩=tx (rgA i):=by
 rw [show (⟨#[114,117,108,101,32,114]⟩:ByteArray)=tx [114,117,108,101,32,114] from rfl,show (⟨#[32,99,111,117,110,116,32,61,32]⟩:ByteArray)=tx [32,99,111,117,110,116,32,61,32] from rfl,txc,txc]
 rfl
theorem rgB_str (i:Nat):(⟨#[49,32,43,32,114]⟩ ++ tx (dec i)) ++ ⟨#[59,32]⟩=tx (rgB i):=by
 rw [show (⟨#[49,32,43,32,114]⟩:ByteArray)=tx [49,32,43,32,114] from rfl,show (⟨#[59,32]⟩:ByteArray)=tx [59,32] from rfl,txc,txc]
 rfl
theorem rgC_str:(⟨#[48,59,32]⟩:ByteArray)=tx [48,59,32]:=rfl
theorem rgL_str (n i:Nat):(tx (rgL n i) ++ tx (rgA i)) ++ tx (rgB ((i+1) % n))=tx (rgL n (i+1)):=by
 rw [txc,txc,rgL,List.append_assoc]
theorem rwL_cut (n c i:Nat) (h:i=c):(tx (rwL n c i) ++ tx (rgA i)) ++ ⟨#[48,59,32]⟩=tx (rwL n c (i+1)):=by
 rw [rgC_str,txc,txc,rwL,if_pos h,List.append_assoc]
theorem rwL_str (n c i:Nat) (h:¬ i=c):(tx (rwL n c i) ++ tx (rgA i)) ++ tx (rgB ((i+1) % n))=tx (rwL n c (i+1)):=by
 rw [txc,txc,rwL,if_neg h,List.append_assoc]
theorem rem_ring (n i:Nat):((i:Int)+1) % (n:Int)=(((i+1) % n:Nat):Int):=by
 rw [show (i:Int)+1=((i+1:Nat):Int) from by omega]
 rfl
theorem rem_row (n c i:Nat) (h:i≤n):Int.tmod ((c:Int) - (i:Int)+(n:Int)) (n:Int)=(((c+n - i) % n:Nat):Int):=by
 rw [show (c:Int) - (i:Int)+(n:Int)=((c+n - i:Nat):Int) from by omega,← Int.ofNat_tmod]
set_option maxRecDepth 100000 in
set_option maxHeartbeats 8000000 in
theorem rings_off (w:World) (hT:TabM w) (n c:Int) (hq:n<1∨20<n∨c<0∨n≤c):Calls Tryz.prog 6 #[.int .i64 n,.int .i64 c] w fun e w'=>e=.returned (.bool true)∧Below w.heap.size w w':=by
 have KA:=hid (awake_any w hT)
 clear hT
 by_cases h1:n<1
 ·clear hq
  go_enter Tryz.func6,Tryz.ntmps6
  go_wp2_with (go_at_call 15;(with_reducible refine Calls.mono KA.out ?_);rintro e w4 ⟨rfl,b4⟩;have B4:=hid b4;clear b4)
  go_returns
  exact ⟨rfl,B4.out⟩
 by_cases h2:20<n
 ·clear hq
  go_enter Tryz.func6,Tryz.ntmps6
  go_wp2_with (go_at_call 15;(with_reducible refine Calls.mono KA.out ?_);rintro e w4 ⟨rfl,b4⟩;have B4:=hid b4;clear b4)
  go_returns
  exact ⟨rfl,B4.out⟩
 by_cases h3:c<0
 ·clear hq
  go_enter Tryz.func6,Tryz.ntmps6
  go_wp2_with (go_at_call 15;(with_reducible refine Calls.mono KA.out ?_);rintro e w4 ⟨rfl,b4⟩;have B4:=hid b4;clear b4)
  go_returns
  exact ⟨rfl,B4.out⟩
 ·have h4:n≤c:=by omega
  clear hq
  go_enter Tryz.func6,Tryz.ntmps6
  go_wp2_with (go_at_call 15;(with_reducible refine Calls.mono KA.out ?_);rintro e w4 ⟨rfl,b4⟩;have B4:=hid b4;clear b4)
  go_returns
  exact ⟨rfl,B4.out⟩
set_option maxRecDepth 100000 in
set_option maxHeartbeats 8000000 in
theorem rings_on (w:World) (hT:TabM w) (n c:Nat) (h1:1≤n) (h2:n≤20) (h3:c<n):Calls Tryz.prog 6 #[.int .i64 (n:Nat),.int .i64 (c:Nat)] w fun e w'=>e=.returned (.bool true)∧Below w.heap.size w w':=by
 have KA:=hid (awake_any w hT)
 have CR:=hid (ckR_of (rings_all n h1 h2))
 have CW:=hid (ckW_of (rows_all n h1 h2 c h3))
 have n1:¬ (n:Int)<1:=by omega
 have n2:¬ (20:Int)<(n:Int):=by omega
 have n3:¬ (c:Int)<0:=by omega
 have n4:¬ (n:Int)≤(c:Int):=by omega
 have n5:¬ (n:Int)=0:=by omega
 have z1:(tx (rgL n n)).size≤3000:=by rw [txz];have:=rgL_len n n;omega
 have z2:(tx (rwL n c n)).size≤3000:=by rw [txz];have:=rwL_len n c n;omega
 have K1:=hid (fun W=>read_any (tx (rgL n n)) W z1)
 have K2:=hid (fun W=>read_any (tx (rwL n c n)) W z2)
 have G1:=hid (good_tr CR.out.1)
 have L1:=hid (len_tr z1)
 have D1':=hid (show nodT (trX (tx (rgL n n)))≤90000 from Nat.le_trans (nod_tr z1) (by decide))
 have G2:=hid (good_tr CW.out.1)
 have L2:=hid (len_tr z2)
 have D2':=hid (show nodT (trX (tx (rwL n c n)))≤90000 from Nat.le_trans (nod_tr z2) (by decide))
 unfold RdX at K1 K2
 simp only [CR.out.1] at K1
 simp only [CW.out.1] at K2
 have SA:=hid CR.out.2
 have SB:=hid CW.out.2
 clear CR CW z1 z2
 generalize trX (tx (rgL n n))=t at *
 generalize trX (tx (rwL n c n))=m at *
 have KS:=hid (fun W (b:Below w.heap.size w W) S v hd=>Sort_any t G1.out.1 G1.out.2 L1.out D1'.out S W v hd (hT.next b))
 have KM:=hid (fun W (b:Below w.heap.size w W) S v hd=>Sort_any m G2.out.1 G2.out.2 L2.out D2'.out S W v hd (hT.next b))
 unfold SoP at KS KM
 rw [SA.out] at KS
 rw [SB.out] at KM
 dsimp only [errS,Option.getD_none,Option.getD_some] at KS KM
 clear hT SA SB G1 G2 L1 L2 D1' D2'
 go_enter Tryz.func6,Tryz.ntmps6
 go_upto_region 7 with (go_at_call 15;(with_reducible refine Calls.mono KA.out ?_);rintro e w3 ⟨rfl,b3⟩;have B3:=hid b3;clear b3)
 have d1:decide ((n:Int)<1)=false:=by simp;omega
 have d2:decide ((20:Int)<(n:Int))=false:=by simp;omega
 have d3:decide ((c:Int)<0)=false:=by simp
 have d4:decide (n≤c)=false:=by simp;omega
 simp only [d1,d2,d3,d4,Bool.or_self,Bool.or_false,Bool.false_or]
 clear d1 d2 d3 d4
 go_loopg [5,6,7] (n) (fun g av bv iv wr=>∃ i:Nat,i≤n∧g=n - i∧av=.string (tx (rgL n i))∧bv=.string (tx (rwL n c i))∧iv=.int .i64 (i:Nat)∧Hid (Below w3.heap.size w3 wr))
 case atStart=>exact ⟨0,Nat.zero_le _,rfl,rfl,rfl,rfl,Below.refl _ _⟩
 case round =>
  obtain ⟨i,hi,rfl,rfl,rfl,rfl,BI⟩:=hrel
  by_cases qi:i<n
  ·have qi':(i:Int)<(n:Int):=by omega
   have EA:=rgA_str i
   obtain ⟨r,hr⟩:∃ r,(i+1) % n=r:=⟨_,rfl⟩
   have rlt:r<n:=by rw [← hr];exact Nat.mod_lt _ (by omega)
   have EB:=rgB_str r
   have ER:((i:Int)+1) % (n:Int)=(r:Int):=by rw [rem_ring,hr]
   have EL:(tx (rgL n i) ++ tx (rgA i)) ++ tx (rgB r)=tx (rgL n (i+1)):=by rw [← hr];exact rgL_str n i
   have EW0:=hid (fun (q:¬ i=c)=>show (tx (rwL n c i) ++ tx (rgA i)) ++ tx (rgB r)=tx (rwL n c (i+1)) from by rw [← hr];exact rwL_str n c i q)
   clear hr
   have LA:(tx (rgA i)).size≤36:=by rw [txz];exact rgA_len i
   have LB:(tx (rgB r)).size≤28:=by rw [txz];exact rgB_len _
   have LL:(tx (rgL n i)).size≤1280:=by rw [txz];have:=rgL_len n i;omega
   have LW:(tx (rwL n c i)).size≤1280:=by rw [txz];have:=rwL_len n c i;omega
   have D1:(tx (dec i)).size≤21:=by rw [txz];exact (dec_len i).2
   have D2:(tx (dec r)).size≤21:=by rw [txz];exact (dec_len _).2
   go_upto_region 10 with (go_at_call 27;(with_reducible refine Calls.mono (lit_2 i _ (by omega)) ?_);rintro e w5 ⟨rfl,b5⟩;have B5:=hid b5;clear b5)
   (try rw [EA])
   go_upto_region 11 with (go_at_call 27;(with_reducible refine Calls.mono (lit_2 r _ (by omega)) ?_);rintro e w6 ⟨rfl,b6⟩;have B6':=hid b6;clear b6)
   (try rw [EB])
   go_upto_region 12 with fail
   (try rw [EL])
   have BN:=hid (nextB (nextB BI.out B5.out) B6'.out)
   by_cases qc:i=c
   ·subst qc
    have EW:=rwL_cut n i i rfl
    clear EA EB ER EL
    go_wp2_with fail
    (try rw [EW])
    go_roundg (n - (i+1))
    case measure=>omega
    case rel=>exact ⟨i+1,by omega,rfl,rfl,rfl,by rw [Int.natCast_add];rfl,BN.out⟩
   ·have qc':¬ (i:Int)=(c:Int):=by omega
    have EW:=EW0.out qc
    clear EA EB ER EL
    go_wp2_with fail
    (try rw [EW])
    go_roundg (n - (i+1))
    case measure=>omega
    case rel=>exact ⟨i+1,by omega,rfl,rfl,rfl,by rw [Int.natCast_add];rfl,BN.out⟩
  ·have qi':¬ (i:Int)<(n:Int):=by omega
   have ei:n=i:=by omega
   subst ei
   have B0:=hid (nextB B3.out BI.out)
   clear BI
   have k1:=hid (K1.out wr)
   go_upto_region 16 with (go_at_call 16;(with_reducible refine Calls.mono k1.out ?_);rintro e w4 ⟨b4,sa4,sb4,sm4,sc4,sn4,sd4,rfl,n4',m4⟩;have B4:=hid (nextB B0.out b4);have N4:=hid n4';clear b4 n4' m4)
   have bX:=(show Below w4.heap.size w4 ((w4.alloc (.cells #[.string t.op,.string t.name,.int .i64 (t.kind:Nat),.int .i64 t.n,.int .i64 (t.pl:Nat),.slice sa4 sm4 sc4] 26)).alloc (.cells #[.string t.op,.string t.name,.int .i64 (t.kind:Nat),.int .i64 t.n,.int .i64 (t.pl:Nat),.slice sb4 sn4 sd4] 29)) from ((Below.refl _ _).alloc (Nat.le_refl _) _).alloc (by simp) _)
   have B5:=hid (nextB B4.out bX)
   have X5:=hid (show B6 ((w4.alloc (.cells #[.string t.op,.string t.name,.int .i64 (t.kind:Nat),.int .i64 t.n,.int .i64 (t.pl:Nat),.slice sa4 sm4 sc4] 26)).alloc (.cells #[.string t.op,.string t.name,.int .i64 (t.kind:Nat),.int .i64 t.n,.int .i64 (t.pl:Nat),.slice sb4 sn4 sd4] 29)) w4.heap.size (.string t.op) (.string t.name) (.int .i64 (t.kind:Nat)) (.int .i64 t.n) (.int .i64 (t.pl:Nat)) (.slice sa4 sm4 sc4) from (B6.new w4 26 (.string t.op) (.string t.name) (.int .i64 (t.kind:Nat)) (.int .i64 t.n) (.int .i64 (t.pl:Nat)) (.slice sa4 sm4 sc4)).next ((Below.refl _ _).alloc (Nat.le_refl _) _))
   have N5:=hid (N4.out.gwY bX)
   clear bX
   generalize World.alloc (World.alloc w4 _) _=w5 at *
   generalize w4.heap.size=q5 at *
   clear N4 B4 k1 K1
   have k2:=hid (K2.out w5)
   go_upto_region 17 with (go_at_call 16;(with_reducible refine Calls.mono k2.out ?_);rintro e w6 ⟨b6,sa6,sb6,sm6,sc6,sn6,sd6,rfl,n6,m6⟩;have B6':=hid (nextB B5.out b6);have X6:=hid (X5.out.next b6);have N6:=hid (N5.out.gwY b6);have M6:=hid n6;clear b6 n6 m6)
   have bX:=(show Below w6.heap.size w6 ((w6.alloc (.cells #[.string m.op,.string m.name,.int .i64 (m.kind:Nat),.int .i64 m.n,.int .i64 (m.pl:Nat),.slice sa6 sm6 sc6] 26)).alloc (.cells #[.string m.op,.string m.name,.int .i64 (m.kind:Nat),.int .i64 m.n,.int .i64 (m.pl:Nat),.slice sb6 sn6 sd6] 29)) from ((Below.refl _ _).alloc (Nat.le_refl _) _).alloc (by simp) _)
   have B7:=hid (nextB B6'.out bX)
   have X7:=hid (X6.out.next bX)
   have N7:=hid (N6.out.gwY bX)
   have M7:=hid (M6.out.gwY bX)
   have Y7:=hid (show B6 ((w6.alloc (.cells #[.string m.op,.string m.name,.int .i64 (m.kind:Nat),.int .i64 m.n,.int .i64 (m.pl:Nat),.slice sa6 sm6 sc6] 26)).alloc (.cells #[.string m.op,.string m.name,.int .i64 (m.kind:Nat),.int .i64 m.n,.int .i64 (m.pl:Nat),.slice sb6 sn6 sd6] 29)) w6.heap.size (.string m.op) (.string m.name) (.int .i64 (m.kind:Nat)) (.int .i64 m.n) (.int .i64 (m.pl:Nat)) (.slice sa6 sm6 sc6) from (B6.new w6 26 (.string m.op) (.string m.name) (.int .i64 (m.kind:Nat)) (.int .i64 m.n) (.int .i64 (m.pl:Nat)) (.slice sa6 sm6 sc6)).next ((Below.refl _ _).alloc (Nat.le_refl _) _))
   clear bX X5 N5 X6 N6 M6 k2 K2
   generalize World.alloc (World.alloc w6 _) _=w7 at *
   generalize w6.heap.size=q7 at *
   have k3:=hid (KS.out w7 B7.out _ _ N7.out)
   obtain ⟨x0,x1,x2,x3,x4,x5,xz⟩:=X7.out
   go_upto_region 18 with (go_at_call 17;(with_reducible refine Calls.mono k3.out ?_);rintro e w8 ⟨v8,rfl,o8,b8⟩;have B8:=hid (nextB B7.out b8);have Y8:=hid (Y7.out.next b8);have M8:=hid (M7.out.gwY b8);obtain ⟨a8,c8,ev8⟩:=own_slice o8.row;subst ev8;clear b8 o8)
   clear x0 x1 x2 x3 x4 x5 xz k3 X7 Y7 N7 M7 KS
   have k4:=hid (KM.out w8 B8.out _ _ M8.out)
   obtain ⟨x0,x1,x2,x3,x4,x5,xz⟩:=Y8.out
   go_upto_region 19 with (go_at_call 17;(with_reducible refine Calls.mono k4.out ?_);rintro e w9 ⟨v9,rfl,o9,b9⟩;have P9:=hid (nextB B8.out b9);obtain ⟨a4,c4,ev9⟩:=own_slice o9.row;rw [sv_len,rgN_len] at ev9;subst ev9;have O9:=hid o9;clear b9 o9)
   clear x0 x1 x2 x3 x4 x5 xz k4 Y8 M8 KM
   go_upto_region 22 with fail
   go_loopg [20] (n) (fun g iv wr=>∃ i:Nat,i≤n∧g=n - i∧iv=.int .i64 (i:Nat)∧Hid (Below w9.heap.size w9 wr))
   case atStart=>exact ⟨0,Nat.zero_le _,rfl,rfl,Below.refl _ _⟩
   case round =>
    obtain ⟨wy,ewy⟩:∃ x,x=wr:=⟨_,rfl⟩
    subst ewy
    obtain ⟨i,hi,rfl,rfl,BI⟩:=hrel
    by_cases qi:i<n
    ·have qi':(i:Int)<(n:Int):=by omega
     obtain ⟨g,c9,e9,h9⟩:=(O9.out.below BI.out).cl (by rw [rgN_len];omega)
     rw [rgN_len] at e9
     injection e9 with e91 e92 e93
     subst e91 e93
     obtain ⟨r,hr⟩:∃ r,(c+n - i) % n=r:=⟨_,rfl⟩
     have rlt:r<n:=by rw [← hr];exact Nat.mod_lt _ (by omega)
     have CX:=hid (h9 i (tx (114 :: dec r)) (by rw [← hr];exact rgN_get qi))
     have RR:=hid (show Int.tmod ((c:Int) - (i:Int)+(n:Int)) (n:Int)=(r:Int) from by rw [← hr];exact rem_row n c i hi)
     have D3:=hid (show (tx (dec r)).size≤21 from by rw [txz];exact (dec_len r).2)
     clear hr
     have SS:=hid (show (⟨#[114]⟩:ByteArray) ++ tx (dec r)=tx (114 :: dec r) from by rw [show (⟨#[114]⟩:ByteArray)=tx [114] from rfl,txc];rfl)
     clear h9 e92
     go_upto_region 24 with fail
     refine wp_region_held_drew (S:=fun W=>Below wy.heap.size wy W) (by kernel_rfl) (Below.refl _ _).drew (fun hHeld=>?_)
     refine tk 0 (.slice (some ⟨g,0,none⟩) n c4) 118 rfl rfl rfl (by kernel_rfl) (fun _ _ _ h=>h) (by rfl) hHeld ?_ ?_
     ·(intro W hW;(try dsimp only at hW);go_simp)
     try simp only [Act.put,List.setIfInBounds_toArray,List.set_cons_zero,List.set_cons_succ]
     refine tk 1 (.int .i64 (i:Nat)) 119 rfl rfl rfl (by kernel_rfl) (fun _ _ _ h=>h) (by rfl) hHeld ?_ ?_
     ·(intro W hW;(try dsimp only at hW);go_simp)
     try simp only [Act.put,List.setIfInBounds_toArray,List.set_cons_zero,List.set_cons_succ]
     refine tk 2 (.pointer (some ⟨g,i,none⟩)) 120 rfl rfl rfl (by kernel_rfl) (fun _ _ _ h=>h) (by rfl) hHeld ?_ ?_
     ·(intro W hW;(try dsimp only at hW);go_simp)
     try simp only [Act.put,List.setIfInBounds_toArray,List.set_cons_zero,List.set_cons_succ]
     refine tk 3 (.string (tx (114 :: dec r))) 121 rfl rfl rfl (by kernel_rfl) (fun _ _ _ h=>h) (by rfl) hHeld ?_ ?_
     ·(intro W hW;(try dsimp only at hW);have c0:=celB hW CX.out;go_simp)
     try simp only [Act.put,List.setIfInBounds_toArray,List.set_cons_zero,List.set_cons_succ]
     refine tk 4 (.int .i64 (c:Nat)) 122 rfl rfl rfl (by kernel_rfl) (fun _ _ _ h=>h) (by rfl) hHeld ?_ ?_
     ·(intro W hW;(try dsimp only at hW);go_simp)
     try simp only [Act.put,List.setIfInBounds_toArray,List.set_cons_zero,List.set_cons_succ]
     refine tk 5 (.int .i64 (i:Nat)) 123 rfl rfl rfl (by kernel_rfl) (fun _ _ _ h=>h) (by rfl) hHeld ?_ ?_
     ·(intro W hW;(try dsimp only at hW);go_simp)
     try simp only [Act.put,List.setIfInBounds_toArray,List.set_cons_zero,List.set_cons_succ]
     refine tk 6 (.int .i64 ((c:Int) - (i:Int))) 124 rfl rfl rfl (by kernel_rfl) (fun _ _ _ h=>h) (by rfl) hHeld ?_ ?_
     ·(intro W hW;(try dsimp only at hW);have cw:IntKind.i64.wrap ((c:Int) - (i:Int))=(c:Int) - (i:Int):=(by go_arith);go_simp)
     try simp only [Act.put,List.setIfInBounds_toArray,List.set_cons_zero,List.set_cons_succ]
     refine tk 7 (.int .i64 (n:Nat)) 125 rfl rfl rfl (by kernel_rfl) (fun _ _ _ h=>h) (by rfl) hHeld ?_ ?_
     ·(intro W hW;(try dsimp only at hW);go_simp)
     try simp only [Act.put,List.setIfInBounds_toArray,List.set_cons_zero,List.set_cons_succ]
     refine tk 8 (.int .i64 ((c:Int) - (i:Int)+(n:Int))) 126 rfl rfl rfl (by kernel_rfl) (fun _ _ _ h=>h) (by rfl) hHeld ?_ ?_
     ·(intro W hW;(try dsimp only at hW);have cw:IntKind.i64.wrap ((c:Int) - (i:Int)+(n:Int))=(c:Int) - (i:Int)+(n:Int):=(by go_arith);go_simp)
     try simp only [Act.put,List.setIfInBounds_toArray,List.set_cons_zero,List.set_cons_succ]
     refine tk 9 (.int .i64 (n:Nat)) 127 rfl rfl rfl (by kernel_rfl) (fun _ _ _ h=>h) (by rfl) hHeld ?_ ?_
     ·(intro W hW;(try dsimp only at hW);go_simp)
     try simp only [Act.put,List.setIfInBounds_toArray,List.set_cons_zero,List.set_cons_succ]
     refine tk 10 (.int .i64 (r:Nat)) 128 rfl rfl rfl (by kernel_rfl) (fun _ _ _ h=>h) (by rfl) hHeld ?_ ?_
     ·(intro W hW;(try dsimp only at hW);have rr:=RR.out;have n0:¬ n=0:=(by omega);go_simp)
     try simp only [Act.put,List.setIfInBounds_toArray,List.set_cons_zero,List.set_cons_succ]
     refine wpAnyH_ready (rs:=[11]) (by kernel_rfl) (by simp) ?_
     refine cons2 rfl rfl (fun K9 hK=>?_)
     go_simp
     refine Calls.mono (lit_2 r _ (by omega)) ?_
     rintro e w7 ⟨rfl,b7⟩
     have B7:=hid (nextB hHeld b7)
     clear b7
     go_wp2_with fail
     refine hK.out _ _ B7.out (fun hX=>?_)
     clear hK K9 hHeld
     have hHeld:=hX
     clear hX
     try simp only [Act.put,List.setIfInBounds_toArray,List.set_cons_zero,List.set_cons_succ]
     refine tk 12 (.string (tx (114 :: dec r))) 130 rfl rfl rfl (by kernel_rfl) (fun _ _ _ h=>h) (by rfl) hHeld ?_ ?_
     ·(intro W hW;(try dsimp only at hW);have ss:=SS.out;have d3:1+(tx (dec r)).size≤9223372036854775807:=(by have:=D3.out;omega);go_simp)
     try simp only [Act.put,List.setIfInBounds_toArray,List.set_cons_zero,List.set_cons_succ]
     refine tk 13 (.bool false) 131 rfl rfl rfl (by kernel_rfl) (fun _ _ _ h=>h) (by rfl) hHeld ?_ ?_
     ·(intro W hW;(try dsimp only at hW);go_simp)
     try simp only [Act.put,List.setIfInBounds_toArray,List.set_cons_zero,List.set_cons_succ]
     refine wpAnyH_done (by kernel_rfl) ?_ _
     go_wp2_with fail
     go_roundg (n - (i+1))
     case measure=>omega
     case rel=>exact ⟨i+1,by omega,rfl,by rw [Int.natCast_add];rfl,nextB BI.out B7.out⟩
    ·have qi':¬ (i:Int)<(n:Int):=by omega
     go_wp2_with fail
     go_returns
     exact ⟨rfl,nextB P9.out BI.out⟩
end Go.Proofs.YteknljnjcoehoaaGreatDoor
