/- Parts of the proof. -/
import Derived.Test.YtonmdlhlkacppaaDoorKf
import Derived.Test.YtonmdlhlkacppaaDoorKQ
import Derived.BigQuiet
import Derived.Deep.RegionHeld3
namespace Go.Proofs.YtonmdlhlkacppaaDoor
open Go.RowKit
set_option linter.unusedVariables false
set_option linter.unusedSimpArgs false
def pvB (o:Option Int) (n:Int):Bool:=match o with | none=>false | some p=>decide (n≤p)
theorem rw_mid3 {N K:Int} {ks:List Tr} {i:Nat} {a:Nat} {x y:Tr} (hk:ks[i]?=some (rowT a [x,y])) (hi:i+1<ks.length):rwF N K (pvF ks i) (ks.drop i)=if (!((x.kind:Int)==N) || pvB (pvF ks i) x.n)=true then some a else if ((y.kind:Int)==K)=true then rwF N K (pvF ks (i+1)) (ks.drop (i+1)) else some a:=by
 rw [rw_mid hk hi]
 show (if eqLk [x,y] [N,K]=true then _ else some a)=_
 rw [show eqLk [x,y] [N,K]=(((x.kind:Int)==N) && (((y.kind:Int)==K) && true)) from rfl,Bool.and_true]
 cases ((x.kind:Int)==N) <;> cases ((y.kind:Int)==K) <;> cases pvF ks i with
 | none=>simp [pvB]
 | some p =>
  first
   | (simp [pvB];done)
   | (simp only [pvB,Bool.and_self,if_true,Bool.not_true,Bool.false_or,decide_eq_true_eq];rfl)
   | (simp [pvB,hdN,rowT];try rfl)
theorem rw_end1 {N K:Int} {ks:List Tr} {i:Nat} {a:Nat} {y:Tr} (hk:ks[i]?=some (rowT a [y])) (hi:i+1=ks.length):rwF N K (pvF ks i) (ks.drop i)=if ((y.kind:Int)==K)=true then none else some a:=by
 rw [rw_end hk hi]
 show (if eqLk [y] [K]=true then none else some a)=_
 rw [show eqLk [y] [K]=(((y.kind:Int)==K) && true) from rfl,Bool.and_true]
theorem Nd.one1 {w:World} {S:Nat→Prop} {v:Value} {x:Tr} (h:Nd w S v [x]):∃ (g c:Nat) (sx:Value),v=.slice (some ⟨g,0,none⟩) 1 c∧S g∧NC w g 0 x sx∧Nd w S sx x.kids:=by
 cases h with
 | row g c ts sl hs h0 hc hk=>exact ⟨g,c,sl 0,rfl,hs,hc 0 x rfl,hk 0 x rfl⟩
set_option maxRecDepth 100000 in
set_option maxHeartbeats 8000000 in
theorem table11 (op nm:ByteArray) (K:Nat) (N:Int) (pl:Nat) (ts:List Tr) (hlen:ts.length≤32) (h0:1≤ts.length) (hT:∀ (i:Nat) (r:Tr),ts[i]?=some r→(i+1<ts.length→GR r)∧(i+1=ts.length→GZ r)) (S:Nat→Prop) (w:World) (v:Value) (hd:Nd w S v ts) :
  Calls Tryd.prog 29 #[.agg #[.string op,.string nm,.int .i64 (K:Nat),.int .i64 N,.int .i64 (pl:Nat),v]] w fun e w'=>e=.returned (.int .i64 (bd (if keyB N=false∨K=6 then some pl else rwF N (K:Nat) none ts)))∧Below w.heap.size w w':=by
 obtain ⟨ta,tc,rfl⟩:=hd.lenY
 have B1:=hid (show Below w.heap.size w (w.alloc (.cells #[.string op,.string nm,.int .i64 (K:Nat),.int .i64 N,.int .i64 (pl:Nat),.slice ta ts.length tc] 29)) from (Below.refl _ _).alloc (Nat.le_refl _) _)
 have X1:=hid (B6.new w 29 (.string op) (.string nm) (.int .i64 (K:Nat)) (.int .i64 N) (.int .i64 (pl:Nat)) (.slice ta ts.length tc))
 have N1:=hid (hd.gwY B1.out)
 have HT:=hid hT
 have TL:(ts.length:Int)≤32:=by omega
 obtain ⟨D,hD⟩:∃ D,(if keyB N=false∨K=6 then some pl else rwF N (K:Nat) none ts)=D:=⟨_,rfl⟩
 have DH:=hid (show (if (!keyB N || (((K:Nat):Int)==6))=true then some pl else rwF N (K:Nat) none ts)=D from by
  rw [← hD]
  by_cases q:keyB N=false∨K=6
  ·rw [if_pos q,if_pos]
   rcases q with q | q
   ·rw [q];rfl
   ·rw [q];cases keyB N <;> rfl
  ·rw [if_neg q,if_neg]
   intro e
   simp only [Bool.or_eq_true,Bool.not_eq_true',beq_iff_eq] at e
   exact q (e.imp id (fun e=>by omega)))
 rw [hD]
 clear hd hT hD hlen h0
 go_enter Tryd.func29,Tryd.ntmps29
 go_upto_region 1 with fail
 generalize World.alloc w _=w1 at *
 go_cut [23] from 6 to 23 (fun s wx=>s=.bool (!keyB N || (((K:Nat):Int)==6))∧Hid (w1=wx))
 case first =>
  have x2:=X1.out.c2
  have x3:=X1.out.c3
  by_cases q2:N=2
  ·have z2:(N != 2)=false:=by simpa using q2
   have kb:keyB N=true:=by rw [q2];rfl
   cases h6:(((K:Nat):Int)==6) with
   | true =>
    have FF:=hid (show Value.bool true=.bool (!keyB N || (((K:Nat):Int)==6)) from by rw [kb,h6];rfl)
    clear kb
    go_wp2
    go_meet
    exact ⟨FF.out,rfl⟩
   | false =>
    have FF:=hid (show Value.bool false=.bool (!keyB N || (((K:Nat):Int)==6)) from by rw [kb,h6];rfl)
    clear kb
    go_wp2
    go_meet
    exact ⟨FF.out,rfl⟩
  ·have z2:(N != 2)=true:=by simpa using q2
   by_cases q3:N=3
   ·have z3:(N != 3)=false:=by simpa using q3
    have kb:keyB N=true:=by rw [q3];rfl
    cases h6:(((K:Nat):Int)==6) with
    | true =>
     have FF:=hid (show Value.bool true=.bool (!keyB N || (((K:Nat):Int)==6)) from by rw [kb,h6];rfl)
     clear kb
     go_wp2
     go_meet
     exact ⟨FF.out,rfl⟩
    | false =>
     have FF:=hid (show Value.bool false=.bool (!keyB N || (((K:Nat):Int)==6)) from by rw [kb,h6];rfl)
     clear kb
     go_wp2
     go_meet
     exact ⟨FF.out,rfl⟩
   ·have z3:(N != 3)=true:=by simpa using q3
    by_cases q5:N=5
    ·have z5:(N != 5)=false:=by simpa using q5
     have kb:keyB N=true:=by rw [q5];rfl
     cases h6:(((K:Nat):Int)==6) with
     | true =>
      have FF:=hid (show Value.bool true=.bool (!keyB N || (((K:Nat):Int)==6)) from by rw [kb,h6];rfl)
      clear kb
      go_wp2
      go_meet
      exact ⟨FF.out,rfl⟩
     | false =>
      have FF:=hid (show Value.bool false=.bool (!keyB N || (((K:Nat):Int)==6)) from by rw [kb,h6];rfl)
      clear kb
      go_wp2
      go_meet
      exact ⟨FF.out,rfl⟩
    ·have z5:(N != 5)=true:=by simpa using q5
     have kb:keyB N=false:=by unfold keyB;exact decide_eq_false (by omega)
     have FF:=hid (show Value.bool true=.bool (!keyB N || (((K:Nat):Int)==6)) from by rw [kb];rfl)
     clear q2 q3 q5 kb
     go_wp2
     go_meet
     exact ⟨FF.out,rfl⟩
 case rest =>
  obtain ⟨rfl,ew⟩:=hcut
  subst ew
  generalize (!keyB N || (((K:Nat):Int)==6))=bb at *
  cases bb with
  | true =>
   have DF:=hid (show some pl=D from DH.out)
   have x4:=X1.out.c4
   go_wp2_with fail
   go_returns
   exact ⟨by rw [← DF.out];rfl,B1.out⟩
  | false =>
   have D0:=hid (show rwF N (K:Nat) none ts=D from DH.out)
   clear DH
   have x5:=X1.out.c5
   go_upto_region 4 with fail
   clear x5
   go_loopg [3,4,5] (ts.length) (fun g iv rv vv wr=>∃ i:Nat,i≤ts.length∧g=ts.length - i∧iv=.int .i64 (i:Nat)∧Hid (Below w1.heap.size w1 wr)∧Hid (rwF N (K:Nat) (pvF ts i) (ts.drop i)=D))
   case atStart=>exact ⟨0,Nat.zero_le _,rfl,rfl,Below.refl _ _,D0.out⟩
   case round =>
    obtain ⟨i,hi,rfl,rfl,B2,RR⟩:=hrel
    clear D0
    have x5:=(X1.out.next B2.out).c5
    by_cases qi:i<ts.length
    ·have qi':(i:Int)<(ts.length:Int):=by omega
     obtain ⟨k,hk⟩:∃ k,ts[i]?=some k:=⟨_,List.getElem?_eq_getElem qi⟩
     obtain ⟨g,c,s3,ea,nc,nk⟩:=(N1.out.gwY B2.out).atY i k hk
     injection ea with ea _ ec
     subst ea ec
     by_cases qm:i+1<ts.length
     ·obtain ⟨a9,x,y,gx,gy,ek⟩:=(HT.out i k hk).1 qm
      have nk2:Nd wr S s3 [x,y]:=by rw [ek] at nk;exact nk
      obtain ⟨g2,c2,sx,sy,rfl,sg2,ncx,ncy,_,ky⟩:=nk2.two2
      obtain ⟨ya,ym,yc,rfl⟩:=ky.slice
      have G2L:=hid (show g2<wr.heap.size from World.block_lt_of_cell? _ _ ncx.e0)
      have NCX:=hid ncx
      have NCY:=hid ncy
      have KP:=hid (show k.pl=a9 from by rw [ek];rfl)
      have RM:=hid (show (if (!((x.kind:Int)==N) || pvB (pvF ts i) x.n)=true then some a9 else if ((y.kind:Int)==(K:Nat))=true then rwF N (K:Nat) (pvF ts (i+1)) (ts.drop (i+1)) else some a9)=D from by rw [← RR.out,rw_mid3 (by rw [hk,ek]) qm])
      obtain ⟨n0,n1,n2,n3,n4,n5⟩:=nc
      have QM:=hid qm
      clear nk nk2 ncx ncy ky gx gy ek RR hk qm
      have A1:=hid (show Below wr.heap.size wr (wr.alloc (.cells #[.string k.op,.string k.name,.int .i64 (k.kind:Nat),.int .i64 k.n,.int .i64 (k.pl:Nat),.slice (some ⟨g2,0,none⟩) 2 c2] 29)) from (Below.refl _ _).alloc (Nat.le_refl _) _)
      have A2:=hid (show Below (wr.alloc (.cells #[.string k.op,.string k.name,.int .i64 (k.kind:Nat),.int .i64 k.n,.int .i64 (k.pl:Nat),.slice (some ⟨g2,0,none⟩) 2 c2] 29)).heap.size (wr.alloc (.cells #[.string k.op,.string k.name,.int .i64 (k.kind:Nat),.int .i64 k.n,.int .i64 (k.pl:Nat),.slice (some ⟨g2,0,none⟩) 2 c2] 29)) ((wr.alloc (.cells #[.string k.op,.string k.name,.int .i64 (k.kind:Nat),.int .i64 k.n,.int .i64 (k.pl:Nat),.slice (some ⟨g2,0,none⟩) 2 c2] 29)).alloc (.cells #[.string y.op,.string y.name,.int .i64 (y.kind:Nat),.int .i64 y.n,.int .i64 (y.pl:Nat),.slice ya ym yc] 29)) from (Below.refl _ _).alloc (Nat.le_refl _) _)
      have A3:=hid (nextB A1.out A2.out)
      have B4:=hid (nextB B2.out A3.out)
      have XK:=hid ((B6.new wr 29 (.string k.op) (.string k.name) (.int .i64 (k.kind:Nat)) (.int .i64 k.n) (.int .i64 (k.pl:Nat)) (.slice (some ⟨g2,0,none⟩) 2 c2)).next A2.out)
      have XY:=hid (show B6 ((wr.alloc (.cells #[.string k.op,.string k.name,.int .i64 (k.kind:Nat),.int .i64 k.n,.int .i64 (k.pl:Nat),.slice (some ⟨g2,0,none⟩) 2 c2] 29)).alloc (.cells #[.string y.op,.string y.name,.int .i64 (y.kind:Nat),.int .i64 y.n,.int .i64 (y.pl:Nat),.slice ya ym yc] 29)) (wr.heap.size+1) (.string y.op) (.string y.name) (.int .i64 (y.kind:Nat)) (.int .i64 y.n) (.int .i64 (y.pl:Nat)) (.slice ya ym yc) from by have q:=B6.new (wr.alloc (.cells #[.string k.op,.string k.name,.int .i64 (k.kind:Nat),.int .i64 k.n,.int .i64 (k.pl:Nat),.slice (some ⟨g2,0,none⟩) 2 c2] 29)) 29 (.string y.op) (.string y.name) (.int .i64 (y.kind:Nat)) (.int .i64 y.n) (.int .i64 (y.pl:Nat)) (.slice ya ym yc);rw [show (wr.alloc (.cells #[.string k.op,.string k.name,.int .i64 (k.kind:Nat),.int .i64 k.n,.int .i64 (k.pl:Nat),.slice (some ⟨g2,0,none⟩) 2 c2] 29)).heap.size=wr.heap.size+1 by simp] at q;exact q)
      have k5:=(B6.new wr 29 (.string k.op) (.string k.name) (.int .i64 (k.kind:Nat)) (.int .i64 k.n) (.int .i64 (k.pl:Nat)) (.slice (some ⟨g2,0,none⟩) 2 c2)).c5
      have m0:=(NCY.out.keep (A1.out.block g2 G2L.out)).e0
      have m1:=(NCY.out.keep (A1.out.block g2 G2L.out)).e1
      have m2:=(NCY.out.keep (A1.out.block g2 G2L.out)).e2
      have m3:=(NCY.out.keep (A1.out.block g2 G2L.out)).e3
      have m4:=(NCY.out.keep (A1.out.block g2 G2L.out)).e4
      have m5:=(NCY.out.keep (A1.out.block g2 G2L.out)).e5
      simp only [Nat.reduceAdd,Nat.zero_add] at m0 m1 m2 m3 m4 m5
      go_upto_region 8 with fail
      clear n0 n1 n2 n3 n4 n5 m0 m1 m2 m3 m4 m5 k5
      generalize World.alloc (World.alloc wr _) _=w4 at *
      generalize wr.heap.size+1=rv at *
      generalize wr.heap.size=rb at *
      have X4:=hid (X1.out.next B4.out)
      have N4:=hid (N1.out.gwY B4.out)
      have XX:=hid (NCX.out.keep (A3.out.block g2 G2L.out))
      clear NCX NCY x5
      go_cut [3,4,5,81] from 46 to 81 (fun s3 s4 s5 s8 wx=>s3=.int .i64 (i:Nat)∧s4=.pointer (some ⟨rb,0,none⟩)∧s5=.pointer (some ⟨rv,0,none⟩)∧s8=.bool (!((x.kind:Int)==N) || pvB (pvF ts i) x.n)∧Hid (∃ nq,wx=w4.drewN nq))
      case first =>
       have k5:=XK.out.c5
       have e2:=XX.out.e2
       have e3:=XX.out.e3
       have t3:=X4.out.c3
       have t5:=X4.out.c5
       simp only [Nat.zero_add] at e2 e3
       by_cases q1:(x.kind:Int)=N
       ·have z1:((x.kind:Int) != N)=false:=by simpa using q1
        have y1:((x.kind:Int)==N)=true:=by simpa using q1
        cases i with
        | zero =>
         have FF:=hid (show Value.bool false=.bool (!((x.kind:Int)==N) || pvB (pvF ts 0) x.n) from by rw [y1];rfl)
         clear q1 y1
         go_quiet (fail)
         go_wp2
         go_meet
         exact ⟨rfl,rfl,rfl,FF.out,_,rfl⟩
        | succ j =>
         obtain ⟨r,hr⟩:∃ r,ts[j]?=some r:=⟨_,List.getElem?_eq_getElem (by omega)⟩
         obtain ⟨a8,x8,y8,_,_,er⟩:=(HT.out j r hr).1 (by omega)
         obtain ⟨g7,c7,s7,ea,nc7,nk7⟩:=N4.out.atY j r hr
         injection ea with ea _ ec
         injection ea with ea
         injection ea with ea
         subst ea ec
         have nk8:Nd w4 S s7 [x8,y8]:=by rw [er] at nk7;exact nk7
         obtain ⟨g3,c3,sx8,sy8,rfl,_,ncx8,_,_,_⟩:=nk8.two2
         have p5:=nc7.e5
         have p3:=ncx8.e3
         simp only [Nat.zero_add] at p3
         have PV:pvF ts (j+1)=some x8.n:=by show (ts[j]?).map hdN=_;rw [hr,er];rfl
         have jz:(0:Int)<(j:Int)+1:=by omega
         have jb:(j:Int)≤100:=by omega
         by_cases q9:x.n≤x8.n
         ·have FF:=hid (show Value.bool true=.bool (!((x.kind:Int)==N) || pvB (pvF ts (j+1)) x.n) from by rw [y1,PV];show _=Value.bool (!true || decide (x.n≤x8.n));rw [decide_eq_true q9];rfl)
          clear q1 y1 PV hr er nc7 nk7 nk8 ncx8
          go_quiet (fail)
          go_wp2
          go_meet
          exact ⟨rfl,rfl,rfl,FF.out,_,rfl⟩
         ·have FF:=hid (show Value.bool false=.bool (!((x.kind:Int)==N) || pvB (pvF ts (j+1)) x.n) from by rw [y1,PV];show _=Value.bool (!true || decide (x.n≤x8.n));rw [decide_eq_false q9];rfl)
          clear q1 y1 PV hr er nc7 nk7 nk8 ncx8
          go_quiet (fail)
          go_wp2
          go_meet
          exact ⟨rfl,rfl,rfl,FF.out,_,rfl⟩
       ·have z1:((x.kind:Int) != N)=true:=by simpa using q1
        have FF:=hid (show Value.bool true=.bool (!((x.kind:Int)==N) || pvB (pvF ts i) x.n) from by rw [show ((x.kind:Int)==N)=false from beqI _ _ q1];rfl)
        clear q1
        go_quiet (fail)
        go_wp2
        go_meet
        exact ⟨rfl,rfl,rfl,FF.out,_,rfl⟩
      case rest =>
       obtain ⟨rfl,rfl,rfl,rfl,nq,ew⟩:=hcut
       subst ew
       have BQ:=hid (drewN_below w4 nq)
       have B5:=hid (nextB B4.out BQ.out)
       have k4:=(XK.out.next BQ.out).c4
       have v2:=(XY.out.next BQ.out).c2
       have t2:=(X1.out.next B5.out).c2
       generalize (!((x.kind:Int)==N) || pvB (pvF ts i) x.n)=bb at *
       generalize w4.drewN nq=w5 at *
       cases bb with
       | true =>
        have DF:=hid (show some k.pl=D from by rw [KP.out];exact RM.out)
        go_wp2_with fail
        go_returns
        exact ⟨by rw [← DF.out];rfl,nextB B1.out B5.out⟩
       | false =>
        by_cases qk:(y.kind:Int)=(K:Nat)
        ·have z:((y.kind:Int) != ((K:Nat):Int))=false:=by simpa using qk
         have DN:=hid (show rwF N (K:Nat) (pvF ts (i+1)) (ts.drop (i+1))=D from by rw [← RM.out,show ((y.kind:Int)==((K:Nat):Int))=true from by simpa using qk];rfl)
         clear qk
         go_wp2_with fail
         go_roundg (ts.length - (i+1))
         case measure=>omega
         case rel=>exact ⟨i+1,by omega,rfl,by rw [Int.natCast_add];rfl,B5.out,DN.out⟩
        ·have z:((y.kind:Int) != ((K:Nat):Int))=true:=by simpa using qk
         have DF:=hid (show some k.pl=D from by rw [KP.out,← RM.out,show ((y.kind:Int)==((K:Nat):Int))=false from beqI _ _ qk];rfl)
         clear qk
         go_wp2_with fail
         go_returns
         exact ⟨by rw [← DF.out];rfl,nextB B1.out B5.out⟩
     ·have qe:i+1=ts.length:=by omega
      obtain ⟨a9,y,gy,ek⟩:=(HT.out i k hk).2 qe
      have nk2:Nd wr S s3 [y]:=by rw [ek] at nk;exact nk
      obtain ⟨g2,c2,sy,rfl,sg2,ncy,ky⟩:=nk2.one1
      obtain ⟨ya,ym,yc,rfl⟩:=ky.slice
      have G2L:=hid (show g2<wr.heap.size from World.block_lt_of_cell? _ _ ncy.e0)
      have NCY:=hid ncy
      have KP:=hid (show k.pl=a9 from by rw [ek];rfl)
      have RM:=hid (show (if ((y.kind:Int)==(K:Nat))=true then none else some a9)=D from by rw [← RR.out,rw_end1 (by rw [hk,ek]) qe])
      obtain ⟨n0,n1,n2,n3,n4,n5⟩:=nc
      have QE:=hid qe
      clear nk nk2 ncy ky gy ek RR hk qm qe
      have A1:=hid (show Below wr.heap.size wr (wr.alloc (.cells #[.string k.op,.string k.name,.int .i64 (k.kind:Nat),.int .i64 k.n,.int .i64 (k.pl:Nat),.slice (some ⟨g2,0,none⟩) 1 c2] 29)) from (Below.refl _ _).alloc (Nat.le_refl _) _)
      have A2:=hid (show Below (wr.alloc (.cells #[.string k.op,.string k.name,.int .i64 (k.kind:Nat),.int .i64 k.n,.int .i64 (k.pl:Nat),.slice (some ⟨g2,0,none⟩) 1 c2] 29)).heap.size (wr.alloc (.cells #[.string k.op,.string k.name,.int .i64 (k.kind:Nat),.int .i64 k.n,.int .i64 (k.pl:Nat),.slice (some ⟨g2,0,none⟩) 1 c2] 29)) ((wr.alloc (.cells #[.string k.op,.string k.name,.int .i64 (k.kind:Nat),.int .i64 k.n,.int .i64 (k.pl:Nat),.slice (some ⟨g2,0,none⟩) 1 c2] 29)).alloc (.cells #[.string y.op,.string y.name,.int .i64 (y.kind:Nat),.int .i64 y.n,.int .i64 (y.pl:Nat),.slice ya ym yc] 29)) from (Below.refl _ _).alloc (Nat.le_refl _) _)
      have A3:=hid (nextB A1.out A2.out)
      have B4:=hid (nextB B2.out A3.out)
      have XK:=hid ((B6.new wr 29 (.string k.op) (.string k.name) (.int .i64 (k.kind:Nat)) (.int .i64 k.n) (.int .i64 (k.pl:Nat)) (.slice (some ⟨g2,0,none⟩) 1 c2)).next A2.out)
      have XY:=hid (show B6 ((wr.alloc (.cells #[.string k.op,.string k.name,.int .i64 (k.kind:Nat),.int .i64 k.n,.int .i64 (k.pl:Nat),.slice (some ⟨g2,0,none⟩) 1 c2] 29)).alloc (.cells #[.string y.op,.string y.name,.int .i64 (y.kind:Nat),.int .i64 y.n,.int .i64 (y.pl:Nat),.slice ya ym yc] 29)) (wr.heap.size+1) (.string y.op) (.string y.name) (.int .i64 (y.kind:Nat)) (.int .i64 y.n) (.int .i64 (y.pl:Nat)) (.slice ya ym yc) from by have q:=B6.new (wr.alloc (.cells #[.string k.op,.string k.name,.int .i64 (k.kind:Nat),.int .i64 k.n,.int .i64 (k.pl:Nat),.slice (some ⟨g2,0,none⟩) 1 c2] 29)) 29 (.string y.op) (.string y.name) (.int .i64 (y.kind:Nat)) (.int .i64 y.n) (.int .i64 (y.pl:Nat)) (.slice ya ym yc);rw [show (wr.alloc (.cells #[.string k.op,.string k.name,.int .i64 (k.kind:Nat),.int .i64 k.n,.int .i64 (k.pl:Nat),.slice (some ⟨g2,0,none⟩) 1 c2] 29)).heap.size=wr.heap.size+1 by simp] at q;exact q)
      have k5:=(B6.new wr 29 (.string k.op) (.string k.name) (.int .i64 (k.kind:Nat)) (.int .i64 k.n) (.int .i64 (k.pl:Nat)) (.slice (some ⟨g2,0,none⟩) 1 c2)).c5
      have m0:=(NCY.out.keep (A1.out.block g2 G2L.out)).e0
      have m1:=(NCY.out.keep (A1.out.block g2 G2L.out)).e1
      have m2:=(NCY.out.keep (A1.out.block g2 G2L.out)).e2
      have m3:=(NCY.out.keep (A1.out.block g2 G2L.out)).e3
      have m4:=(NCY.out.keep (A1.out.block g2 G2L.out)).e4
      have m5:=(NCY.out.keep (A1.out.block g2 G2L.out)).e5
      simp only [Nat.zero_add] at m0 m1 m2 m3 m4 m5
      go_upto_region 8 with fail
      clear n0 n1 n2 n3 n4 n5 m0 m1 m2 m3 m4 m5 k5
      generalize World.alloc (World.alloc wr _) _=w4 at *
      generalize wr.heap.size+1=rv at *
      generalize wr.heap.size=rb at *
      have X4:=hid (X1.out.next B4.out)
      have N4:=hid (N1.out.gwY B4.out)
      clear NCY x5
      have k5:=XK.out.c5
      go_quiet (fail)
      have BQ:=hid (drewN_below w4 nq)
      have B5:=hid (nextB B4.out BQ.out)
      have k4:=(XK.out.next BQ.out).c4
      have v2:=(XY.out.next BQ.out).c2
      have t2:=(X1.out.next B5.out).c2
      clear k5
      generalize w4.drewN nq=w5 at *
      by_cases qk:(y.kind:Int)=(K:Nat)
      ·have z:((y.kind:Int) != ((K:Nat):Int))=false:=by simpa using qk
       have DN:=hid (show rwF N (K:Nat) (pvF ts (i+1)) (ts.drop (i+1))=D from by
        rw [← RM.out,show ((y.kind:Int)==((K:Nat):Int))=true from by simpa using qk,List.drop_eq_nil_of_le (by have:=QE.out;omega)]
        cases pvF ts (i+1) <;> rfl)
       clear qk
       go_wp2_with fail
       go_roundg (ts.length - (i+1))
       case measure=>omega
       case rel=>exact ⟨i+1,by omega,rfl,by rw [Int.natCast_add];rfl,B5.out,DN.out⟩
      ·have z:((y.kind:Int) != ((K:Nat):Int))=true:=by simpa using qk
       have DF:=hid (show some k.pl=D from by rw [KP.out,← RM.out,show ((y.kind:Int)==((K:Nat):Int))=false from beqI _ _ qk];rfl)
       clear qk
       go_wp2_with fail
       go_returns
       exact ⟨by rw [← DF.out];rfl,nextB B1.out B5.out⟩
    ·have qi':¬ (i:Int)<(ts.length:Int):=by omega
     have DF:=hid (show none=D from by
      rw [← RR.out,List.drop_eq_nil_of_le (by omega)]
      cases pvF ts i <;> rfl)
     go_wp2_with fail
     go_returns
     exact ⟨by rw [← DF.out];rfl,nextB B1.out B2.out⟩
theorem dup_at {ks:List Tr} {i:Nat} {k:Tr} (hk:ks[i]?=some k):dupF (ks.take i) (ks.drop i)=if 0<decN (ks.take i) k.name∨64≤i then some k.pl else dupF (ks.take (i+1)) (ks.drop (i+1)):=by
 obtain ⟨h1,h2⟩:=List.getElem?_eq_some_iff.1 hk
 rw [List.drop_eq_getElem_cons h1,h2,dupF]
 rw [show (ks.take i).length=i from by rw [List.length_take];omega]
 rw [show ks.take (i+1)=ks.take i ++ [k] from by rw [List.take_add_one,hk];rfl]
theorem tab_at9 {ks:List Tr} {i:Nat} {k:Tr} (hk:ks[i]?=some k):tabF (ks.drop i)=if eqB k.op ⟨#[116,97,98,108,101]⟩=true then (match tab1 k with | some a=>some a | none=>tabF (ks.drop (i+1))) else tabF (ks.drop (i+1)):=by
 obtain ⟨h1,h2⟩:=List.getElem?_eq_some_iff.1 hk
 rw [List.drop_eq_getElem_cons h1,h2,tabF]
 cases tab1 k <;> rfl
theorem rul_at {KS ks:List Tr} {i:Nat} {k:Tr} (hk:ks[i]?=some k):rulF KS (ks.drop i)=if eqB k.op ⟨#[114,117,108,101]⟩=true then (match rul1 KS k with | some a=>some a | none=>rulF KS (ks.drop (i+1))) else rulF KS (ks.drop (i+1)):=by
 obtain ⟨h1,h2⟩:=List.getElem?_eq_some_iff.1 hk
 rw [List.drop_eq_getElem_cons h1,h2,rulF]
 cases rul1 KS k <;> rfl
theorem tab_call {k:Tr} (h:GD k) (ho:eqB k.op ⟨#[116,97,98,108,101]⟩=true) (S:Nat→Prop) (w:World) (v:Value) (hd:Nd w S v k.kids) :
  Calls Tryd.prog 29 #[.agg #[.string k.op,.string k.name,.int .i64 (k.kind:Nat),.int .i64 k.n,.int .i64 (k.pl:Nat),v]] w fun e w'=>e=.returned (.int .i64 (bd (tab1 k)))∧Below w.heap.size w w':=by
 cases h with
 | inp nm kind a h1 h6=>cases ho
 | rul nm kind a e h1 h6 he=>cases ho
 | tab nm kind kk a rs l h1 h6 k1 k6 hl hr hz =>
  refine table11 _ _ _ _ _ _ ?_ ?_ ?_ S w v hd
  ·show (rs ++ [l]).length≤32;rw [List.length_append];show rs.length+1≤32;omega
  ·show 1≤(rs ++ [l]).length;rw [List.length_append];show 1≤rs.length+1;omega
  ·intro i r hi
   have hi:(rs ++ [l])[i]?=some r:=hi
   show (i+1<(rs ++ [l]).length→GR r)∧(i+1=(rs ++ [l]).length→GZ r)
   have e:(rs ++ [l]).length=rs.length+1:=by rw [List.length_append];rfl
   rw [e]
   refine ⟨fun q=>?_,fun q=>?_⟩
   ·rw [List.getElem?_append_left (by omega)] at hi
    exact hr r (List.mem_iff_getElem?.2 ⟨i,hi⟩)
   ·rw [List.getElem?_append_right (by omega),show i - rs.length=0 by omega] at hi
    simp at hi
    rw [← hi]
    exact hz
theorem rul_kid {k:Tr} (h:GD k) (ho:eqB k.op ⟨#[114,117,108,101]⟩=true):∃ e,k.kids=[e]∧GE 40 e∧1≤k.kind:=by
 cases h with
 | inp nm kind a h1 h6=>cases ho
 | rul nm kind a e h1 h6 he=>exact ⟨e,rfl,he,h1⟩
 | tab nm kind kk a rs l h1 h6 k1 k6 hl hr hz=>cases ho
set_option maxRecDepth 100000 in
set_option maxHeartbeats 8000000 in
theorem check11_any (t:Tr) (S:Nat→Prop) (w:World) (v:Value) (hd:Nd w S v t.kids) (hg:∀ k,k ∈ t.kids→GD k) (hn:t.kids.length≤10000) :
  Calls Tryd.prog 13 #[.agg #[.string t.op,.string t.name,.int .i64 (t.kind:Nat),.int .i64 t.n,.int .i64 (t.pl:Nat),v]] w fun e w'=>e=.returned (.int .i64 (bd (ckF t.kids)))∧Below w.heap.size w w':=by
 obtain ⟨sa,sc,rfl⟩:=hd.lenY
 have B1:=hid (show Below w.heap.size w (w.alloc (.cells #[.string t.op,.string t.name,.int .i64 (t.kind:Nat),.int .i64 t.n,.int .i64 (t.pl:Nat),.slice sa t.kids.length sc] 29)) from (Below.refl _ _).alloc (Nat.le_refl _) _)
 have X1:=hid (B6.new w 29 (.string t.op) (.string t.name) (.int .i64 (t.kind:Nat)) (.int .i64 t.n) (.int .i64 (t.pl:Nat)) (.slice sa t.kids.length sc))
 have N1:=hid (hd.gwY B1.out)
 have HG:=hid hg
 have HN:=hid hn
 have KL:(t.kids.length:Int)≤10000:=by omega
 obtain ⟨D,hD⟩:∃ D,ckF t.kids=D:=⟨_,rfl⟩
 have DH:=hid (show (match dupF [] t.kids with | some a=>some a | none=>match tabF t.kids with | some a=>some a | none=>rulF t.kids t.kids)=D from hD)
 rw [hD]
 clear hd hg hn hD
 go_enter Tryd.func13,Tryd.ntmps13
 go_upto_region 1 with fail
 generalize World.alloc w _=w1 at *
 go_wp2_with fail
 go_loopg [3,4] (t.kids.length) (fun g iv kv wr=>∃ i:Nat,i≤t.kids.length∧g=t.kids.length - i∧iv=.int .i64 (i:Nat)∧Hid (Below w1.heap.size w1 wr)∧Hid (dupF (t.kids.take i) (t.kids.drop i)=dupF [] t.kids))
 case atStart=>exact ⟨0,Nat.zero_le _,rfl,rfl,Below.refl _ _,rfl⟩
 case round =>
  obtain ⟨i,hi,rfl,rfl,B2,RR⟩:=hrel
  have x5:=(X1.out.next B2.out).c5
  by_cases qi:i<t.kids.length
  ·have qi':(i:Int)<(t.kids.length:Int):=by omega
   obtain ⟨k,hk⟩:∃ k,t.kids[i]?=some k:=⟨_,List.getElem?_eq_getElem qi⟩
   obtain ⟨g,c,s3,ea,nc,nk⟩:=(N1.out.gwY B2.out).atY i k hk
   injection ea with ea _ ec
   subst ea ec
   have RM:=hid (show (if 0<decN (t.kids.take i) k.name∨64≤i then some k.pl else dupF (t.kids.take (i+1)) (t.kids.drop (i+1)))=dupF [] t.kids from by rw [← RR.out,dup_at hk])
   have HK:=hid hk
   have n4:=nc.e4
   clear nc nk hk RR
   by_cases q6:64≤i
   ·have q6':(64:Int)≤(i:Int):=by omega
    have DF:=hid (show some k.pl=D from by rw [← DH.out,← RM.out,if_pos (Or.inr q6)])
    clear q6
    go_wp2_with fail
    go_returns
    exact ⟨by rw [← DF.out];rfl,nextB B1.out B2.out⟩
   ·have q6':¬ (64:Int)≤(i:Int):=by omega
    clear n4
    go_upto_region 7 with fail
    clear x5
    obtain ⟨wo,ewo⟩:∃ x,x=wr:=⟨_,rfl⟩
    subst ewo
    go_loopg [4] (i) (fun g iv wr=>∃ j:Nat,j≤i∧g=i - j∧iv=.int .i64 (j:Nat)∧Hid (Below w1.heap.size w1 wr)∧Hid (∀ (u:Nat) (r:Tr),u<j→t.kids[u]?=some r→eqB r.name k.name=false))
    case atStart=>exact ⟨0,Nat.zero_le _,rfl,rfl,B2.out,fun u r hu _=>absurd hu (Nat.not_lt_zero _)⟩
    case round =>
     obtain ⟨j,hj,rfl,rfl,B3,NN⟩:=hrel
     have x5:=(X1.out.next B3.out).c5
     by_cases qj:j<i
     ·have qj':(j:Int)<(i:Int):=by omega
      have qjl':(j:Int)<(t.kids.length:Int):=by omega
      obtain ⟨r,hr⟩:∃ r,t.kids[j]?=some r:=⟨_,List.getElem?_eq_getElem (by omega)⟩
      obtain ⟨g8,c8,s8,ea,nc,nk⟩:=(N1.out.gwY B3.out).atY j r hr
      injection ea with ea _ ec
      injection ea with ea
      injection ea with ea
      subst ea ec
      obtain ⟨g9,c9,s9,ea,nd9,nk9⟩:=(N1.out.gwY B3.out).atY i k HK.out
      injection ea with ea _ ec
      injection ea with ea
      injection ea with ea
      subst ea ec
      have m1:=nc.e1
      have n1:=nd9.e1
      have n4:=nd9.e4
      clear nc nk nd9 nk9
      cases yn:eqB r.name k.name with
      | true =>
       have z:(r.name.toList==k.name.toList)=true:=(eqB_is _ _).trans yn
       have DF:=hid (show some k.pl=D from by
        rw [← DH.out,← RM.out,if_pos (Or.inl (dec_some (j:=j) (by rw [List.getElem?_take_of_lt qj];exact hr) yn))])
       clear yn hr
       go_upto_region 9 with fail
       go_quiet (fail)
       have BQ:=hid (drewN_below wr nq)
       go_wp2_with fail
       go_returns
       exact ⟨by rw [← DF.out];rfl,nextB B1.out (nextB B3.out BQ.out)⟩
      | false =>
       have z:(r.name.toList==k.name.toList)=false:=(eqB_is _ _).trans yn
       have N2:=hid (show ∀ (u:Nat) (x:Tr),u<j+1→t.kids[u]?=some x→eqB x.name k.name=false from fun u v hu hv=>by
        rcases Nat.eq_or_lt_of_le (Nat.le_of_lt_succ hu) with e | e
        ·subst e
         rw [hr] at hv
         injection hv with hv
         rw [← hv]
         exact yn
        ·exact NN.out u v e hv)
       clear yn hr NN
       go_upto_region 9 with fail
       go_quiet (fail)
       have BQ:=hid (drewN_below wr nq)
       go_wp2_with fail
       go_roundg (i - (j+1))
       case measure=>omega
       case rel=>exact ⟨j+1,by omega,rfl,by rw [Int.natCast_add];rfl,nextB B3.out BQ.out,N2.out⟩
     ·have qj':¬ (j:Int)<(i:Int):=by omega
      have RN:=hid (show dupF (t.kids.take (i+1)) (t.kids.drop (i+1))=dupF [] t.kids from by
       rw [← RM.out,if_neg]
       intro h
       rcases h with h | h
       ·rw [dec_none (fun u r hu=>NN.out u r (by have:=lt_of_some hu;rw [List.length_take] at this;omega) (by rw [List.getElem?_take_of_lt (by have:=lt_of_some hu;rw [List.length_take] at this;omega)] at hu;exact hu))] at h
        omega
       ·omega)
      clear NN RM
      go_wp2_with fail
      go_roundg (t.kids.length - (i+1))
      case measure=>omega
      case rel=>exact ⟨i+1,by omega,rfl,by rw [Int.natCast_add];rfl,B3.out,RN.out⟩
  ·have qi':¬ (i:Int)<(t.kids.length:Int):=by omega
   have D2:=hid (show (match tabF t.kids with | some a=>some a | none=>rulF t.kids t.kids)=D from by
    rw [← DH.out,← RR.out,List.drop_eq_nil_of_le (by omega)]
    rfl)
   clear RR DH
   go_upto_region 12 with fail
   clear x5
   obtain ⟨wo,ewo⟩:∃ x,x=wr:=⟨_,rfl⟩
   subst ewo
   go_loopg [5,6] (t.kids.length) (fun g iv kv wr=>∃ i:Nat,i≤t.kids.length∧g=t.kids.length - i∧iv=.int .i64 (i:Nat)∧Hid (Below w1.heap.size w1 wr)∧Hid (tabF (t.kids.drop i)=tabF t.kids))
   case atStart=>exact ⟨0,Nat.zero_le _,rfl,rfl,B2.out,rfl⟩
   case round =>
    obtain ⟨j,hj,rfl,rfl,B3,RR⟩:=hrel
    have x5:=(X1.out.next B3.out).c5
    by_cases qj:j<t.kids.length
    ·have qj':(j:Int)<(t.kids.length:Int):=by omega
     obtain ⟨k,hk⟩:∃ k,t.kids[j]?=some k:=⟨_,List.getElem?_eq_getElem qj⟩
     obtain ⟨g,c,s3,ea,nc,nk⟩:=(N1.out.gwY B3.out).atY j k hk
     obtain ⟨ka,km,kc,rfl⟩:=nk.slice
     injection ea with ea _ ec
     subst ea ec
     have RM:=hid ((tab_at9 hk).symm.trans RR.out)
     have GK:=hid (HG.out k (List.mem_iff_getElem?.2 ⟨j,hk⟩))
     have NK:=hid nk
     obtain ⟨n0,n1,n2,n3,n4,n5⟩:=nc
     clear nk hk RR
     cases yo:eqB k.op ⟨#[116,97,98,108,101]⟩ with
     | false =>
      have z:(k.op.toList==[116,97,98,108,101])=false:=(eqL _ _).trans yo
      have RN:=hid (show tabF (t.kids.drop (j+1))=tabF t.kids from by rw [← RM.out,yo];rfl)
      clear yo RM
      go_wp2_with fail
      go_roundg (t.kids.length - (j+1))
      case measure=>omega
      case rel=>exact ⟨j+1,by omega,rfl,by rw [Int.natCast_add];rfl,B3.out,RN.out⟩
     | true =>
      have z:(k.op.toList==[116,97,98,108,101])=true:=(eqL _ _).trans yo
      have TC:=hid (tab_call GK.out yo S wr _ NK.out)
      rw [yo,if_pos rfl] at RM
      generalize tab1 k=tk at *
      clear yo
      go_upto_region 16 with (go_at_call 29;(with_reducible refine Calls.mono TC.out ?_);rintro e w4 ⟨rfl,b4⟩;have B4:=hid (nextB B3.out b4);clear b4)
      clear n0 n1 n2 n3 n4 n5
      cases tk with
      | some a =>
       have DF:=hid (show some a=D from by rw [← D2.out,← RM.out])
       have z0:(0:Int)≤(a:Int):=by omega
       dsimp only [bd]
       go_wp2_with fail
       go_returns
       exact ⟨by rw [← DF.out];rfl,nextB B1.out B4.out⟩
      | none =>
       dsimp only [bd]
       go_wp2_with fail
       go_roundg (t.kids.length - (j+1))
       case measure=>omega
       case rel=>exact ⟨j+1,by omega,rfl,by rw [Int.natCast_add];rfl,B4.out,RM.out⟩
    ·have qj':¬ (j:Int)<(t.kids.length:Int):=by omega
     have D3:=hid (show rulF t.kids t.kids=D from by
      rw [← D2.out,← RR.out,List.drop_eq_nil_of_le (by omega)]
      rfl)
     clear RR D2
     go_upto_region 19 with fail
     clear x5
     obtain ⟨wp,ewp⟩:∃ x,x=wr:=⟨_,rfl⟩
     subst ewp
     go_loopg [7,8,9,10] (t.kids.length) (fun g iv a8 a9 a10 wr=>∃ i:Nat,i≤t.kids.length∧g=t.kids.length - i∧iv=.int .i64 (i:Nat)∧Hid (Below w1.heap.size w1 wr)∧Hid (rulF t.kids (t.kids.drop i)=D))
     case atStart=>exact ⟨0,Nat.zero_le _,rfl,rfl,B3.out,D3.out⟩
     case round =>
      obtain ⟨u,hu,rfl,rfl,B4,RR⟩:=hrel
      have x5:=(X1.out.next B4.out).c5
      by_cases qu:u<t.kids.length
      ·have qu':(u:Int)<(t.kids.length:Int):=by omega
       obtain ⟨k,hk⟩:∃ k,t.kids[u]?=some k:=⟨_,List.getElem?_eq_getElem qu⟩
       obtain ⟨g,c,s3,ea,nc,nk⟩:=(N1.out.gwY B4.out).atY u k hk
       obtain ⟨ka,km,kc,rfl⟩:=nk.slice
       injection ea with ea _ ec
       subst ea ec
       have RM:=hid ((rul_at hk).symm.trans RR.out)
       have GK:=hid (HG.out k (List.mem_iff_getElem?.2 ⟨u,hk⟩))
       have NK:=hid nk
       have A5:=hid (show Below wr.heap.size wr (wr.alloc (.cells #[.string k.op,.string k.name,.int .i64 (k.kind:Nat),.int .i64 k.n,.int .i64 (k.pl:Nat),.slice ka km kc] 29)) from (Below.refl _ _).alloc (Nat.le_refl _) _)
       have B5:=hid (nextB B4.out A5.out)
       have XK:=hid (B6.new wr 29 (.string k.op) (.string k.name) (.int .i64 (k.kind:Nat)) (.int .i64 k.n) (.int .i64 (k.pl:Nat)) (.slice ka km kc))
       have N5:=hid (NK.out.gwY A5.out)
       obtain ⟨n0,n1,n2,n3,n4,n5⟩:=nc
       clear nk hk RR NK
       go_upto_region 22 with fail
       clear n0 n1 n2 n3 n4 n5 x5
       generalize World.alloc wr _=w5 at *
       generalize wr.heap.size=kb at *
       have X5:=hid (X1.out.next B5.out)
       have T5:=hid (N1.out.gwY B5.out)
       cases yo:eqB k.op ⟨#[114,117,108,101]⟩ with
       | false =>
        have z:(k.op.toList==[114,117,108,101])=false:=(eqL _ _).trans yo
        have z':(k.op.toList != [114,117,108,101])=true:=by unfold bne;rw [z];rfl
        have RN:=hid (show rulF t.kids (t.kids.drop (u+1))=D from by rw [← RM.out,yo];rfl)
        have y0:=XK.out.c0
        clear yo RM
        go_wp2_with fail
        go_roundg (t.kids.length - (u+1))
        case measure=>omega
        case rel=>exact ⟨u+1,by omega,rfl,by rw [Int.natCast_add];rfl,B5.out,RN.out⟩
       | true =>
        have z:(k.op.toList==[114,117,108,101])=true:=(eqL _ _).trans yo
        have z':(k.op.toList != [114,117,108,101])=false:=by unfold bne;rw [z];rfl
        obtain ⟨e,ek,ge,k1⟩:=rul_kid GK.out yo
        rw [yo,if_pos rfl] at RM
        have GE4:=hid ge
        have K1:=hid k1
        have N6:Nd w5 S (.slice ka km kc) [e]:=by rw [← ek];exact N5.out
        have RL:=hid (show rul1 t.kids k=(if k.kind=6 then some k.pl else if (chk t.kids [] [] e).1=(k.kind:Int) then none else if (chk t.kids [] [] e).1=0 then some (chk t.kids [] [] e).2 else some k.pl) from by unfold rul1;rw [ek])
        rw [RL.out] at RM
        obtain ⟨g2,c2,se,es,sg2,nce,nke⟩:=N6.one1
        injection es with es1 es2 es3
        subst es1 es2 es3
        obtain ⟨ea1,em1,ec1,rfl⟩:=nke.slice
        have NE:=hid nke
        have NCE:=hid nce
        have G2L:=hid (show g2<w5.heap.size from World.block_lt_of_cell? _ _ nce.e0)
        have y0:=XK.out.c0
        have y2:=XK.out.c2
        clear yo ge k1 ek N6 nce nke RL N5
        by_cases q6:k.kind=6
        ·have z6:(((k.kind:Nat):Int)==6)=true:=by rw [q6];rfl
         have DF:=hid (show some k.pl=D from by rw [← RM.out,if_pos q6])
         have y4:=XK.out.c4
         clear q6
         go_wp2_with fail
         go_returns
         exact ⟨by rw [← DF.out];rfl,nextB B1.out B5.out⟩
        ·have z6:(((k.kind:Nat):Int)==6)=false:=beqI _ _ (by omega)
         rw [if_neg q6] at RM
         clear q6
         obtain ⟨x0,x1,x2,x3,x4,x5,xz⟩:=X5.out
         go_upto_region 26 with fail
         clear x0 x1 x2 x3 x4 x5 xz y0 y2
         have C6:=hid (cq_new w5 68 t S (.slice (some ⟨g,0,none⟩) t.kids.length sc) T5.out)
         have A6:=hid (show Below w5.heap.size w5 (w5.alloc (.cells #[.string t.op,.string t.name,.int .i64 (t.kind:Nat),.int .i64 t.n,.int .i64 (t.pl:Nat),.slice (some ⟨g,0,none⟩) t.kids.length sc,.slice none 0 0,.slice none 0 0,.int .i64 (-1)] 68)) from (Below.refl _ _).alloc (Nat.le_refl _) _)
         have B6:=hid (nextB B5.out A6.out)
         have XK6:=hid (XK.out.next A6.out)
         have NC6:=hid (NCE.out.keep (A6.out.block g2 G2L.out))
         have KC:=hid (of_good w5.heap.size t (.slice (some ⟨g,0,none⟩) t.kids.length sc) HG.out HN.out GE4.out [] (by decide) _ (fun g=>S g∧g<w5.heap.size) _ none 0 none 0 _ (fun g s=>by have:=s.2;omega) (fun g s=>by have:=s.2;omega) C6.out (NE.out.keep fun g s l=>⟨⟨s,l⟩,A6.out.block g l⟩))
         unfold OfP at KC
         rw [show ([]:List ByteArray).reverse=[] from rfl] at KC
         generalize chk t.kids [] [] e=R at *
         have KBL:=hid (show kb<w5.heap.size from XK.out.lt)
         have SZ:=hid (show w1.heap.size≤w5.heap.size from B5.out.size)
         clear C6 A6
         generalize World.alloc w5 _=w6 at *
         generalize w5.heap.size=p at *
         have y5:=XK6.out.c5
         have n0:=NC6.out.e0
         have n1:=NC6.out.e1
         have n2:=NC6.out.e2
         have n3:=NC6.out.e3
         have n4:=NC6.out.e4
         have n5:=NC6.out.e5
         simp only [Nat.zero_add] at n1 n2 n3 n4 n5
         go_upto_region 27 with (go_at_call 30;(with_reducible refine Calls.mono KC.out ?_);rintro x w7 ⟨rfl,h7,g7⟩;obtain ⟨la2,lc2,ka2,kc2,c7,f3,f4⟩:=h7;have C7:=hid c7;have B7:=hid (gr_below B6.out g7 SZ.out);have XK7:=hid (XK6.out.gr g7 (by have:=KBL.out;omega));clear c7 f3 f4 g7)
         clear n0 n1 n2 n3 n4 n5 y5
         by_cases q:R.1=0
         ·rw [show fO R=some R.2 from if_pos q] at C7
          have c8:w7.cell? ⟨p,8,none⟩=some (.int .i64 (R.2:Nat)):=C7.out.ck.c8
          have zk:(0:Int)≤(R.2:Int):=by omega
          have DF:=hid (show some R.2=D from by rw [← RM.out,if_neg (by rw [q];have:=K1.out;omega),if_pos q])
          clear q
          go_wp2_with fail
          go_returns
          exact ⟨by rw [← DF.out];rfl,nextB B1.out B7.out⟩
         ·rw [show fO R=none from if_neg q] at C7
          have c8:w7.cell? ⟨p,8,none⟩=some (.int .i64 (-1)):=C7.out.ck.c8
          have y2:=XK7.out.c2
          have y4:=XK7.out.c4
          by_cases qk:R.1=(k.kind:Int)
          ·have zk:(R.1 != (k.kind:Int))=false:=by simpa using qk
           have RN:=hid (show rulF t.kids (t.kids.drop (u+1))=D from by rw [← RM.out,if_pos qk])
           clear q qk
           go_wp2_with fail
           go_roundg (t.kids.length - (u+1))
           case measure=>omega
           case rel=>exact ⟨u+1,by omega,rfl,by rw [Int.natCast_add];rfl,B7.out,RN.out⟩
          ·have zk:(R.1 != (k.kind:Int))=true:=by simpa using qk
           have DF:=hid (show some k.pl=D from by rw [← RM.out,if_neg qk,if_neg q])
           clear q qk
           go_wp2_with fail
           go_returns
           exact ⟨by rw [← DF.out];rfl,nextB B1.out B7.out⟩
      ·have qu':¬ (u:Int)<(t.kids.length:Int):=by omega
       have DF:=hid (show none=D from by
        rw [← RR.out,List.drop_eq_nil_of_le (by omega)]
        rfl)
       go_wp2_with fail
       go_returns
       exact ⟨by rw [← DF.out];rfl,nextB B1.out B4.out⟩
end Go.Proofs.YtonmdlhlkacppaaDoor
