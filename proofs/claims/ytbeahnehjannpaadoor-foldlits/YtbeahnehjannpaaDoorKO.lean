/- Parts of the proof. -/
import Derived.Test.YtbeahnehjannpaaDoorKH
import Derived.BigQuiet
import Derived.Deep.RegionHeld3
namespace Go.Proofs.YtbeahnehjannpaaDoor
open Go.RowKit
set_option linter.unusedVariables false
set_option linter.unusedSimpArgs false
set_option maxRecDepth 100000 in
set_option maxHeartbeats 4000000 in
theorem rrow_2 {w:World} {p b c:Nat} {ws:List Wo} {d:Nat} {s:Sp} (h:Sw w p b c ws d s) (B:Ax) (hB:∀ w s,Sw w p b c ws d s→Calls Tryd.prog 71 #[.pointer (some ⟨p,0,none⟩),.int .i64 3] w fun e w'=>Rn w w' p b c ws d e (B s)) (hM:∀ s,(B s).2.l.length≤s.l.length) (R:Tr × Sp) (hR:loopX B 2 (B s).2.l.length (B s).1 (B s).2=R) :
  Calls Tryd.prog 71 #[.pointer (some ⟨p,0,none⟩),.int .i64 2] w fun e w'=>Rn w w' p b c ws d e R:=by
 have pl0:=h.pl
 have bl0:=h.bl
 have HB:=hid (B6.new w 31 (.string ⟨#[]⟩) (.string ⟨#[]⟩) (.int .i64 0) (.int .i64 0) (.int .i64 0) (.slice none 0 0))
 have HS0:Hid (Below w.heap.size w (w.alloc (.cells #[.string ⟨#[]⟩,.string ⟨#[]⟩,.int .i64 0,.int .i64 0,.int .i64 0,.slice none 0 0] 31))):=(Below.refl _ _).alloc (Nat.le_refl _) _
 have HS:=hid (h.next HS0.out)
 have HG:=hid ((Gr.refl w p).below HS0.out)
 have WS:=hid (show w.heap.size<(w.alloc (.cells #[.string ⟨#[]⟩,.string ⟨#[]⟩,.int .i64 0,.int .i64 0,.int .i64 0,.slice none 0 0] 31)).heap.size from by simp)
 have f0:=fd0
 have f1:=fd1
 have f3:=fd3
 have BH:=hid hB
 have MH:=hid hM
 obtain ⟨r,hr⟩:∃ r,B s=r:=⟨_,rfl⟩
 rw [hr] at hR
 have RH:=hid hR
 have HRR:=hid hr
 clear h hB hM hR hr
 go_enter Tryd.func71,Tryd.ntmps71
 go_upto_region 1 with fail
 generalize World.alloc w _=w1 at *
 obtain ⟨n0,hn0⟩:∃ n,n=w1.heap.size:=⟨_,rfl⟩
 have wn:w.heap.size<n0:=by rw [hn0];exact WS.out
 have pn:p<n0:=by omega
 have bn:b<n0:=by omega
 replace WS:=hid (Nat.le_of_eq hn0)
 clear hn0 HS0
 go_upto_region 4 with fail
 have AL:=hid (show Below w1.heap.size w1 ((((((w1.alloc (.cells #[.string ⟨#[111,114]⟩] 9)).alloc (.cells #[.string ⟨#[97,110,100]⟩] 9)).alloc (.cells #[.string ⟨#[60]⟩,.string ⟨#[60,61]⟩,.string ⟨#[62]⟩,.string ⟨#[62,61]⟩,.string ⟨#[61,61]⟩,.string ⟨#[33,61]⟩] 9)).alloc (.cells #[.string ⟨#[43]⟩,.string ⟨#[45]⟩] 9)).alloc (.cells #[.string ⟨#[42]⟩,.string ⟨#[47]⟩] 9)).alloc (.cells #[.slice (some ⟨w1.heap.size,0,none⟩) 1 1,.slice (some ⟨w1.heap.size+1,0,none⟩) 1 1,.slice (some ⟨w1.heap.size+1+1,0,none⟩) 6 6,.slice (some ⟨w1.heap.size+1+1+1,0,none⟩) 2 2,.slice (some ⟨w1.heap.size+1+1+1+1,0,none⟩) 2 2] 23)) from ((((((Below.refl _ _).alloc (by simp) _).alloc (by simp) _).alloc (by simp;omega) _).alloc (by simp;omega) _).alloc (by simp;omega) _).alloc (by simp;omega) _)
 have OS:=hid (show Os ((((((w1.alloc (.cells #[.string ⟨#[111,114]⟩] 9)).alloc (.cells #[.string ⟨#[97,110,100]⟩] 9)).alloc (.cells #[.string ⟨#[60]⟩,.string ⟨#[60,61]⟩,.string ⟨#[62]⟩,.string ⟨#[62,61]⟩,.string ⟨#[61,61]⟩,.string ⟨#[33,61]⟩] 9)).alloc (.cells #[.string ⟨#[43]⟩,.string ⟨#[45]⟩] 9)).alloc (.cells #[.string ⟨#[42]⟩,.string ⟨#[47]⟩] 9)).alloc (.cells #[.slice (some ⟨w1.heap.size,0,none⟩) 1 1,.slice (some ⟨w1.heap.size+1,0,none⟩) 1 1,.slice (some ⟨w1.heap.size+1+1,0,none⟩) 6 6,.slice (some ⟨w1.heap.size+1+1+1,0,none⟩) 2 2,.slice (some ⟨w1.heap.size+1+1+1+1,0,none⟩) 2 2] 23)) (w1.heap.size+1+1) [⟨#[60]⟩,⟨#[60,61]⟩,⟨#[62]⟩,⟨#[62,61]⟩,⟨#[61,61]⟩,⟨#[33,61]⟩] from ((((show Os (((w1.alloc (.cells #[.string ⟨#[111,114]⟩] 9)).alloc (.cells #[.string ⟨#[97,110,100]⟩] 9)).alloc (.cells #[.string ⟨#[60]⟩,.string ⟨#[60,61]⟩,.string ⟨#[62]⟩,.string ⟨#[62,61]⟩,.string ⟨#[61,61]⟩,.string ⟨#[33,61]⟩] 9)) (w1.heap.size+1+1) [⟨#[60]⟩,⟨#[60,61]⟩,⟨#[62]⟩,⟨#[62,61]⟩,⟨#[61,61]⟩,⟨#[33,61]⟩] from by have:=os_new ((w1.alloc (.cells #[.string ⟨#[111,114]⟩] 9)).alloc (.cells #[.string ⟨#[97,110,100]⟩] 9)) [⟨#[60]⟩,⟨#[60,61]⟩,⟨#[62]⟩,⟨#[62,61]⟩,⟨#[61,61]⟩,⟨#[33,61]⟩] 9;simpa only [World.size_alloc,List.map_cons,List.map_nil] using this).al (by decide) _).al (by decide) _).al (by decide) _))
 have go:n0≤w1.heap.size+1+1:=by have:=WS.out;omega
 replace HS:=hid (HS.out.next AL.out)
 replace HG:=hid (HG.out.below AL.out)
 replace HB:=hid (HB.out.next AL.out)
 replace WS:=hid (Nat.le_trans WS.out AL.out.size)
 clear AL
 generalize World.alloc (World.alloc (World.alloc (World.alloc (World.alloc (World.alloc w1 _) _) _) _) _) _=w2 at *
 generalize w1.heap.size+1+1=bo at *
 have EC:=hid (BH.out _ _ HS.out)
 rw [HRR.out] at EC
 go_wp2_with (go_at_call 71;with_reducible refine Calls.mono EC.out ?_;rintro e w4 h4;obtain ⟨g4,s4,sa4,sm4,sc4,rfl,nv4⟩:=h4.parts;have NV4:=hid nv4;have WO4:=WS;have OS4:=hid (OS.out.keep (g4.block bo (OS.out.lt (by decide)) (fun e=>by injection e with e;omega)));replace HG:=hid (HG.out.trans g4);replace HB:=hid (HB.out.gr g4 (by omega));replace WS:=hid (Nat.le_trans WS.out g4.size);replace HS:=hid s4;clear h4 g4 s4 nv4 EC OS)
 have AL:=hid (show Below w4.heap.size w4 (w4.alloc (.cells #[.string r.1.op,.string r.1.name,.int .i64 (r.1.kind:Nat),.int .i64 r.1.n,.int .i64 (r.1.pl:Nat),.slice sa4 sm4 sc4] 31)) from (Below.refl _ _).alloc (Nat.le_refl _) _)
 have bq:bo<w4.heap.size:=OS4.out.lt (by decide)
 have qn:n0≤w4.heap.size:=WS.out
 have LP:=hid (show Lp w (w4.alloc (.cells #[.string r.1.op,.string r.1.name,.int .i64 (r.1.kind:Nat),.int .i64 r.1.n,.int .i64 (r.1.pl:Nat),.slice sa4 sm4 sc4] 31)) p b c ws d n0 w4.heap.size bo [⟨#[60]⟩,⟨#[60,61]⟩,⟨#[62]⟩,⟨#[62,61]⟩,⟨#[61,61]⟩,⟨#[33,61]⟩] r.1 (.slice sa4 sm4 sc4) r.2 from ⟨HS.out.next AL.out,HG.out.below AL.out,HB.out.next AL.out,Nat.le_trans WS.out AL.out.size,Bq.new NV4.out WO4.out WS.out 31,OS4.out.al (by decide) _,by decide,by omega,by omega,wn,go⟩)
 clear AL HS HG HB WS WO4 NV4 OS4 HRR
 generalize World.alloc w4 _=y4 at *
 generalize w4.heap.size=q at *
 go_loopg [7] (r.2.l.length) (fun g ov wr=>∃ (f:Nat) (t:Tr) (sa:Option Addr) (sm sc:Nat) (z:Sp),g=z.l.length∧Hid (Lp w wr p b c ws d n0 q bo [⟨#[60]⟩,⟨#[60,61]⟩,⟨#[62]⟩,⟨#[62,61]⟩,⟨#[61,61]⟩,⟨#[33,61]⟩] t (.slice sa sm sc) z)∧Hid (loopX B 2 f t z=R∧z.l.length≤f))
 case atStart=>exact ⟨_,r.1,_,_,_,r.2,rfl,LP,⟨RH.out,Nat.le_refl _⟩⟩
 case round =>
  clear LP RH
  obtain ⟨f,t,sa,sm,sc,z,rfl,LP,RI⟩:=hrel
  have ZL:=hid (LP.out.hs.len)
  have WC:=hid (rw_any LP.out.hs)
  have OA:=hid (opAt_any 2 (by decide) z)
  go_wp2_with (go_at_call 40;with_reducible refine Calls.mono WC.out ?_;rintro e w5 ⟨rfl,b5⟩;replace LP:=hid (LP.out.next b5);clear b5 WC)
  refine wp_loop_rounds 7 ?_
  cases y0:z.is ⟨#[60]⟩ with
  | true =>
   have Y0:=hid y0
   clear y0
   rw [rounds_succ]
   have o0:=LP.out.os 0 _ rfl
   have TK:=hid (rtake_any LP.out.hs ⟨#[60]⟩)
   rw [tk_yes Y0.out,Y0.out] at TK
   go_wp2_with fail
   go_at_call 41
   with_reducible refine Calls.mono TK.out ?_
   rintro e w10 ⟨rfl,h10,g10⟩
   replace LP:=hid (LP.out.gr h10 g10)
   have p0:=LP.out.os 0 _ rfl
   clear h10 g10 TK o0
   go_wp2_with fail
   rw [rounds_succ]
   go_upto_region 12 with fail
   have TW:=hid (is_tw Y0.out)
   have OT:=hid (show opAt 2 z=true from by rw [OA.out];simp [rowOps,Y0.out])
   obtain ⟨r2,hr2⟩:∃ r2,B z.nx=r2:=⟨_,rfl⟩
   have EC:=hid (BH.out _ _ LP.out.hs)
   rw [hr2] at EC
   have R2:=hid hr2
   clear hr2
   go_upto_region 15 with (go_at_call 71;with_reducible refine Calls.mono EC.out ?_;rintro e w20 h20;obtain ⟨g20,s20,sa20,sm20,sc20,rfl,nv20⟩:=h20.parts;have QL:=hid LP.out.bq.b.lt;have NV20:=hid nv20;replace LP:=hid (LP.out.gr s20 g20);have GS:=hid g20.size;clear h20 g20 s20 nv20 EC)
   have BB:=hid (Bx.new (m:=q+1) NV20.out QL.out (Nat.le_trans QL.out GS.out) 31)
   have AL:=hid (show Below w20.heap.size w20 (w20.alloc (.cells #[.string r2.1.op,.string r2.1.name,.int .i64 (r2.1.kind:Nat),.int .i64 r2.1.n,.int .i64 (r2.1.pl:Nat),.slice sa20 sm20 sc20] 31)) from (Below.refl _ _).alloc (Nat.le_refl _) _)
   replace LP:=hid (LP.out.next AL.out)
   have gb:q<w20.heap.size:=BB.out.l
   clear AL NV20 QL GS
   generalize World.alloc w20 _=y20 at *
   generalize w20.heap.size=bb at *
   obtain ⟨e0,e1,e2,e3,e4,e5,_⟩:=BB.out.b
   obtain ⟨m0,m1,m2,m3,m4,m5,mz⟩:=LP.out.bq.b
   have HS7:=hid (show Below y20.heap.size y20 (y20.alloc (.cells #[.string t.op,.string t.name,.int .i64 (t.kind:Nat),.int .i64 t.n,.int .i64 (t.pl:Nat),.slice sa sm sc,.string r2.1.op,.string r2.1.name,.int .i64 (r2.1.kind:Nat),.int .i64 r2.1.n,.int .i64 (r2.1.pl:Nat),.slice sa20 sm20 sc20] 31)) from (Below.refl _ _).alloc (Nat.le_refl _) _)
   have C0:=hid (show NC (y20.alloc (.cells #[.string t.op,.string t.name,.int .i64 (t.kind:Nat),.int .i64 t.n,.int .i64 (t.pl:Nat),.slice sa sm sc,.string r2.1.op,.string r2.1.name,.int .i64 (r2.1.kind:Nat),.int .i64 r2.1.n,.int .i64 (r2.1.pl:Nat),.slice sa20 sm20 sc20] 31)) y20.heap.size 0 t (.slice sa sm sc) from ⟨by simp,by simp,by simp,by simp,by simp,by simp⟩)
   have C6:=hid (show NC (y20.alloc (.cells #[.string t.op,.string t.name,.int .i64 (t.kind:Nat),.int .i64 t.n,.int .i64 (t.pl:Nat),.slice sa sm sc,.string r2.1.op,.string r2.1.name,.int .i64 (r2.1.kind:Nat),.int .i64 r2.1.n,.int .i64 (r2.1.pl:Nat),.slice sa20 sm20 sc20] 31)) y20.heap.size 6 r2.1 (.slice sa20 sm20 sc20) from ⟨by simp,by simp,by simp,by simp,by simp,by simp⟩)
   have QL2:=hid LP.out.bq.b.lt
   have nq:n0≤q:=LP.out.bq.l
   have NN7:=hid (nd_two2 (c:=2) (S:=fun g=>n0≤g∧g≠q) ⟨by have:=QL2.out;omega,by have:=QL2.out;omega⟩ C0.out C6.out (LP.out.bq.d.keep fun g s l=>⟨s,HS7.out.block g l⟩) (BB.out.d.keep fun g s l=>⟨⟨by omega,by omega⟩,HS7.out.block g l⟩))
   replace LP:=hid (LP.out.next HS7.out)
   clear HS7 C0 C6
   obtain ⟨k0,k1,k2,k3,k4,k5,kz⟩:=LP.out.bq.b
   replace LP:=hid (show Lp w (((((((y20.alloc (.cells #[.string t.op,.string t.name,.int .i64 (t.kind:Nat),.int .i64 t.n,.int .i64 (t.pl:Nat),.slice sa sm sc,.string r2.1.op,.string r2.1.name,.int .i64 (r2.1.kind:Nat),.int .i64 r2.1.n,.int .i64 (r2.1.pl:Nat),.slice sa20 sm20 sc20] 31)).setCell ⟨q,0,none⟩ (.string ⟨#[60]⟩)).setCell ⟨q,1,none⟩ (.string ⟨#[]⟩)).setCell ⟨q,2,none⟩ (.int .i64 0)).setCell ⟨q,3,none⟩ (.int .i64 0)).setCell ⟨q,4,none⟩ (.int .i64 (aw z.l:Nat))).setCell ⟨q,5,none⟩ (.slice (some ⟨y20.heap.size,0,none⟩) 2 2)) p b c ws d n0 q bo [⟨#[60]⟩,⟨#[60,61]⟩,⟨#[62]⟩,⟨#[62,61]⟩,⟨#[61,61]⟩,⟨#[33,61]⟩] (two ⟨#[60]⟩ (aw z.l) t r2.1) (.slice (some ⟨y20.heap.size,0,none⟩) 2 2) r2.2 from LP.out.up (two ⟨#[60]⟩ (aw z.l) t r2.1) (.slice (some ⟨y20.heap.size,0,none⟩) 2 2) NN7.out (by omega))
   go_upto_region 16 with fail
   generalize World.setCell _ ⟨q,5,none⟩ _=y21 at *
   generalize y20.heap.size=bz at *
   clear m0 m1 m2 m3 m4 m5 mz k0 k1 k2 k3 k4 k5 kz e0 e1 e2 e3 e4 e5 BB NN7
   have RZ:=hid (show R=(two ⟨#[60]⟩ (aw z.l) t r2.1,r2.2) from by rw [← RI.out.1,loop_two OT.out (by have:=ZL.out.1;have:=RI.out.2;omega),R2.out,TW.out])
   clear RI OA OT
   have RZ':=RZ.out
   subst RZ'
   go_upto_region 17 with fail
   obtain ⟨u0,u1,u2,u3,u4,u5,uz⟩:=LP.out.hb
   obtain ⟨m0,m1,m2,m3,m4,m5,mz⟩:=(show B6 _ q (.string ⟨#[60]⟩) (.string ⟨#[]⟩) (.int .i64 0) (.int .i64 0) (.int .i64 (aw z.l:Nat)) (.slice (some ⟨bz,0,none⟩) 2 2) from LP.out.bq.b)
   have nq:n0≤q:=LP.out.bq.l
   have BF:=hid (LP.out.hb.sets (.string ⟨#[60]⟩) (.string ⟨#[]⟩) (.int .i64 0) (.int .i64 0) (.int .i64 (aw z.l:Nat)) (.slice (some ⟨bz,0,none⟩) 2 2))
   have SF:=hid (LP.out.hs.put6 (q:=w.heap.size) (by omega) (by omega) (.string ⟨#[60]⟩) (.string ⟨#[]⟩) (.int .i64 0) (.int .i64 0) (.int .i64 (aw z.l:Nat)) (.slice (some ⟨bz,0,none⟩) 2 2))
   have GF:=hid (LP.out.hg.put6 (q:=w.heap.size) (by omega) (.string ⟨#[60]⟩) (.string ⟨#[]⟩) (.int .i64 0) (.int .i64 0) (.int .i64 (aw z.l:Nat)) (.slice (some ⟨bz,0,none⟩) 2 2))
   have NF:=hid ((LP.out.bq.d.keep (S':=fun g=>n0≤g) fun g s l=>⟨s.1,rfl⟩).put6x (q:=w.heap.size) (m:=w.heap.size) wn (by omega) (.string ⟨#[60]⟩) (.string ⟨#[]⟩) (.int .i64 0) (.int .i64 0) (.int .i64 (aw z.l:Nat)) (.slice (some ⟨bz,0,none⟩) 2 2))
   go_wp2_with fail
   generalize World.setCell _ ⟨w.heap.size,5,none⟩ _=wf at *
   obtain ⟨q0,q1,q2,q3,q4,q5,_⟩:=BF.out
   exact bodyPost_ret (v:=.agg #[.string ⟨#[60]⟩,.string ⟨#[]⟩,.int .i64 0,.int .i64 0,.int .i64 (aw z.l:Nat),.slice (some ⟨bz,0,none⟩) 2 2]) (by simp [results,Tryd.results71,go_sem,q0,q1,q2,q3,q4,q5]) rfl ⟨GF.out,SF.out,_,rfl,_,rfl,NF.out⟩
  | false =>
   have Y0:=hid y0
   clear y0
   cases y1:z.is ⟨#[60,61]⟩ with
   | true =>
    have Y1:=hid y1
    clear y1
    rw [rounds_succ]
    have o0:=LP.out.os 0 _ rfl
    have TK:=hid (rtake_any LP.out.hs ⟨#[60]⟩)
    rw [tk_no Y0.out,Y0.out] at TK
    go_wp2_with fail
    go_at_call 41
    with_reducible refine Calls.mono TK.out ?_
    rintro e w10 ⟨rfl,h10,g10⟩
    replace LP:=hid (LP.out.gr h10 g10)
    have p0:=LP.out.os 0 _ rfl
    clear h10 g10 TK o0
    go_wp2_with fail
    rw [rounds_succ]
    have o1:=LP.out.os 1 _ rfl
    have TK:=hid (rtake_any LP.out.hs ⟨#[60,61]⟩)
    rw [tk_yes Y1.out,Y1.out] at TK
    go_wp2_with fail
    go_at_call 41
    with_reducible refine Calls.mono TK.out ?_
    rintro e w11 ⟨rfl,h11,g11⟩
    replace LP:=hid (LP.out.gr h11 g11)
    have p1:=LP.out.os 1 _ rfl
    clear h11 g11 TK o1
    go_wp2_with fail
    rw [rounds_succ]
    go_upto_region 12 with fail
    have TW:=hid (is_tw Y1.out)
    have OT:=hid (show opAt 2 z=true from by rw [OA.out];simp [rowOps,Y1.out])
    obtain ⟨r2,hr2⟩:∃ r2,B z.nx=r2:=⟨_,rfl⟩
    have EC:=hid (BH.out _ _ LP.out.hs)
    rw [hr2] at EC
    have R2:=hid hr2
    clear hr2
    go_upto_region 15 with (go_at_call 71;with_reducible refine Calls.mono EC.out ?_;rintro e w20 h20;obtain ⟨g20,s20,sa20,sm20,sc20,rfl,nv20⟩:=h20.parts;have QL:=hid LP.out.bq.b.lt;have NV20:=hid nv20;replace LP:=hid (LP.out.gr s20 g20);have GS:=hid g20.size;clear h20 g20 s20 nv20 EC)
    have BB:=hid (Bx.new (m:=q+1) NV20.out QL.out (Nat.le_trans QL.out GS.out) 31)
    have AL:=hid (show Below w20.heap.size w20 (w20.alloc (.cells #[.string r2.1.op,.string r2.1.name,.int .i64 (r2.1.kind:Nat),.int .i64 r2.1.n,.int .i64 (r2.1.pl:Nat),.slice sa20 sm20 sc20] 31)) from (Below.refl _ _).alloc (Nat.le_refl _) _)
    replace LP:=hid (LP.out.next AL.out)
    have gb:q<w20.heap.size:=BB.out.l
    clear AL NV20 QL GS
    generalize World.alloc w20 _=y20 at *
    generalize w20.heap.size=bb at *
    obtain ⟨e0,e1,e2,e3,e4,e5,_⟩:=BB.out.b
    obtain ⟨m0,m1,m2,m3,m4,m5,mz⟩:=LP.out.bq.b
    have HS7:=hid (show Below y20.heap.size y20 (y20.alloc (.cells #[.string t.op,.string t.name,.int .i64 (t.kind:Nat),.int .i64 t.n,.int .i64 (t.pl:Nat),.slice sa sm sc,.string r2.1.op,.string r2.1.name,.int .i64 (r2.1.kind:Nat),.int .i64 r2.1.n,.int .i64 (r2.1.pl:Nat),.slice sa20 sm20 sc20] 31)) from (Below.refl _ _).alloc (Nat.le_refl _) _)
    have C0:=hid (show NC (y20.alloc (.cells #[.string t.op,.string t.name,.int .i64 (t.kind:Nat),.int .i64 t.n,.int .i64 (t.pl:Nat),.slice sa sm sc,.string r2.1.op,.string r2.1.name,.int .i64 (r2.1.kind:Nat),.int .i64 r2.1.n,.int .i64 (r2.1.pl:Nat),.slice sa20 sm20 sc20] 31)) y20.heap.size 0 t (.slice sa sm sc) from ⟨by simp,by simp,by simp,by simp,by simp,by simp⟩)
    have C6:=hid (show NC (y20.alloc (.cells #[.string t.op,.string t.name,.int .i64 (t.kind:Nat),.int .i64 t.n,.int .i64 (t.pl:Nat),.slice sa sm sc,.string r2.1.op,.string r2.1.name,.int .i64 (r2.1.kind:Nat),.int .i64 r2.1.n,.int .i64 (r2.1.pl:Nat),.slice sa20 sm20 sc20] 31)) y20.heap.size 6 r2.1 (.slice sa20 sm20 sc20) from ⟨by simp,by simp,by simp,by simp,by simp,by simp⟩)
    have QL2:=hid LP.out.bq.b.lt
    have nq:n0≤q:=LP.out.bq.l
    have NN7:=hid (nd_two2 (c:=2) (S:=fun g=>n0≤g∧g≠q) ⟨by have:=QL2.out;omega,by have:=QL2.out;omega⟩ C0.out C6.out (LP.out.bq.d.keep fun g s l=>⟨s,HS7.out.block g l⟩) (BB.out.d.keep fun g s l=>⟨⟨by omega,by omega⟩,HS7.out.block g l⟩))
    replace LP:=hid (LP.out.next HS7.out)
    clear HS7 C0 C6
    obtain ⟨k0,k1,k2,k3,k4,k5,kz⟩:=LP.out.bq.b
    replace LP:=hid (show Lp w (((((((y20.alloc (.cells #[.string t.op,.string t.name,.int .i64 (t.kind:Nat),.int .i64 t.n,.int .i64 (t.pl:Nat),.slice sa sm sc,.string r2.1.op,.string r2.1.name,.int .i64 (r2.1.kind:Nat),.int .i64 r2.1.n,.int .i64 (r2.1.pl:Nat),.slice sa20 sm20 sc20] 31)).setCell ⟨q,0,none⟩ (.string ⟨#[60,61]⟩)).setCell ⟨q,1,none⟩ (.string ⟨#[]⟩)).setCell ⟨q,2,none⟩ (.int .i64 0)).setCell ⟨q,3,none⟩ (.int .i64 0)).setCell ⟨q,4,none⟩ (.int .i64 (aw z.l:Nat))).setCell ⟨q,5,none⟩ (.slice (some ⟨y20.heap.size,0,none⟩) 2 2)) p b c ws d n0 q bo [⟨#[60]⟩,⟨#[60,61]⟩,⟨#[62]⟩,⟨#[62,61]⟩,⟨#[61,61]⟩,⟨#[33,61]⟩] (two ⟨#[60,61]⟩ (aw z.l) t r2.1) (.slice (some ⟨y20.heap.size,0,none⟩) 2 2) r2.2 from LP.out.up (two ⟨#[60,61]⟩ (aw z.l) t r2.1) (.slice (some ⟨y20.heap.size,0,none⟩) 2 2) NN7.out (by omega))
    go_upto_region 16 with fail
    generalize World.setCell _ ⟨q,5,none⟩ _=y21 at *
    generalize y20.heap.size=bz at *
    clear m0 m1 m2 m3 m4 m5 mz k0 k1 k2 k3 k4 k5 kz e0 e1 e2 e3 e4 e5 BB NN7
    have RZ:=hid (show R=(two ⟨#[60,61]⟩ (aw z.l) t r2.1,r2.2) from by rw [← RI.out.1,loop_two OT.out (by have:=ZL.out.1;have:=RI.out.2;omega),R2.out,TW.out])
    clear RI OA OT
    have RZ':=RZ.out
    subst RZ'
    go_upto_region 17 with fail
    obtain ⟨u0,u1,u2,u3,u4,u5,uz⟩:=LP.out.hb
    obtain ⟨m0,m1,m2,m3,m4,m5,mz⟩:=(show B6 _ q (.string ⟨#[60,61]⟩) (.string ⟨#[]⟩) (.int .i64 0) (.int .i64 0) (.int .i64 (aw z.l:Nat)) (.slice (some ⟨bz,0,none⟩) 2 2) from LP.out.bq.b)
    have nq:n0≤q:=LP.out.bq.l
    have BF:=hid (LP.out.hb.sets (.string ⟨#[60,61]⟩) (.string ⟨#[]⟩) (.int .i64 0) (.int .i64 0) (.int .i64 (aw z.l:Nat)) (.slice (some ⟨bz,0,none⟩) 2 2))
    have SF:=hid (LP.out.hs.put6 (q:=w.heap.size) (by omega) (by omega) (.string ⟨#[60,61]⟩) (.string ⟨#[]⟩) (.int .i64 0) (.int .i64 0) (.int .i64 (aw z.l:Nat)) (.slice (some ⟨bz,0,none⟩) 2 2))
    have GF:=hid (LP.out.hg.put6 (q:=w.heap.size) (by omega) (.string ⟨#[60,61]⟩) (.string ⟨#[]⟩) (.int .i64 0) (.int .i64 0) (.int .i64 (aw z.l:Nat)) (.slice (some ⟨bz,0,none⟩) 2 2))
    have NF:=hid ((LP.out.bq.d.keep (S':=fun g=>n0≤g) fun g s l=>⟨s.1,rfl⟩).put6x (q:=w.heap.size) (m:=w.heap.size) wn (by omega) (.string ⟨#[60,61]⟩) (.string ⟨#[]⟩) (.int .i64 0) (.int .i64 0) (.int .i64 (aw z.l:Nat)) (.slice (some ⟨bz,0,none⟩) 2 2))
    go_wp2_with fail
    generalize World.setCell _ ⟨w.heap.size,5,none⟩ _=wf at *
    obtain ⟨q0,q1,q2,q3,q4,q5,_⟩:=BF.out
    exact bodyPost_ret (v:=.agg #[.string ⟨#[60,61]⟩,.string ⟨#[]⟩,.int .i64 0,.int .i64 0,.int .i64 (aw z.l:Nat),.slice (some ⟨bz,0,none⟩) 2 2]) (by simp [results,Tryd.results71,go_sem,q0,q1,q2,q3,q4,q5]) rfl ⟨GF.out,SF.out,_,rfl,_,rfl,NF.out⟩
   | false =>
    have Y1:=hid y1
    clear y1
    cases y2:z.is ⟨#[62]⟩ with
    | true =>
     have Y2:=hid y2
     clear y2
     rw [rounds_succ]
     have o0:=LP.out.os 0 _ rfl
     have TK:=hid (rtake_any LP.out.hs ⟨#[60]⟩)
     rw [tk_no Y0.out,Y0.out] at TK
     go_wp2_with fail
     go_at_call 41
     with_reducible refine Calls.mono TK.out ?_
     rintro e w10 ⟨rfl,h10,g10⟩
     replace LP:=hid (LP.out.gr h10 g10)
     have p0:=LP.out.os 0 _ rfl
     clear h10 g10 TK o0
     go_wp2_with fail
     rw [rounds_succ]
     have o1:=LP.out.os 1 _ rfl
     have TK:=hid (rtake_any LP.out.hs ⟨#[60,61]⟩)
     rw [tk_no Y1.out,Y1.out] at TK
     go_wp2_with fail
     go_at_call 41
     with_reducible refine Calls.mono TK.out ?_
     rintro e w11 ⟨rfl,h11,g11⟩
     replace LP:=hid (LP.out.gr h11 g11)
     have p1:=LP.out.os 1 _ rfl
     clear h11 g11 TK o1
     go_wp2_with fail
     rw [rounds_succ]
     have o2:=LP.out.os 2 _ rfl
     have TK:=hid (rtake_any LP.out.hs ⟨#[62]⟩)
     rw [tk_yes Y2.out,Y2.out] at TK
     go_wp2_with fail
     go_at_call 41
     with_reducible refine Calls.mono TK.out ?_
     rintro e w12 ⟨rfl,h12,g12⟩
     replace LP:=hid (LP.out.gr h12 g12)
     have p2:=LP.out.os 2 _ rfl
     clear h12 g12 TK o2
     go_wp2_with fail
     rw [rounds_succ]
     go_upto_region 12 with fail
     have TW:=hid (is_tw Y2.out)
     have OT:=hid (show opAt 2 z=true from by rw [OA.out];simp [rowOps,Y2.out])
     obtain ⟨r2,hr2⟩:∃ r2,B z.nx=r2:=⟨_,rfl⟩
     have EC:=hid (BH.out _ _ LP.out.hs)
     rw [hr2] at EC
     have R2:=hid hr2
     clear hr2
     go_upto_region 15 with (go_at_call 71;with_reducible refine Calls.mono EC.out ?_;rintro e w20 h20;obtain ⟨g20,s20,sa20,sm20,sc20,rfl,nv20⟩:=h20.parts;have QL:=hid LP.out.bq.b.lt;have NV20:=hid nv20;replace LP:=hid (LP.out.gr s20 g20);have GS:=hid g20.size;clear h20 g20 s20 nv20 EC)
     have BB:=hid (Bx.new (m:=q+1) NV20.out QL.out (Nat.le_trans QL.out GS.out) 31)
     have AL:=hid (show Below w20.heap.size w20 (w20.alloc (.cells #[.string r2.1.op,.string r2.1.name,.int .i64 (r2.1.kind:Nat),.int .i64 r2.1.n,.int .i64 (r2.1.pl:Nat),.slice sa20 sm20 sc20] 31)) from (Below.refl _ _).alloc (Nat.le_refl _) _)
     replace LP:=hid (LP.out.next AL.out)
     have gb:q<w20.heap.size:=BB.out.l
     clear AL NV20 QL GS
     generalize World.alloc w20 _=y20 at *
     generalize w20.heap.size=bb at *
     obtain ⟨e0,e1,e2,e3,e4,e5,_⟩:=BB.out.b
     obtain ⟨m0,m1,m2,m3,m4,m5,mz⟩:=LP.out.bq.b
     have HS7:=hid (show Below y20.heap.size y20 (y20.alloc (.cells #[.string t.op,.string t.name,.int .i64 (t.kind:Nat),.int .i64 t.n,.int .i64 (t.pl:Nat),.slice sa sm sc,.string r2.1.op,.string r2.1.name,.int .i64 (r2.1.kind:Nat),.int .i64 r2.1.n,.int .i64 (r2.1.pl:Nat),.slice sa20 sm20 sc20] 31)) from (Below.refl _ _).alloc (Nat.le_refl _) _)
     have C0:=hid (show NC (y20.alloc (.cells #[.string t.op,.string t.name,.int .i64 (t.kind:Nat),.int .i64 t.n,.int .i64 (t.pl:Nat),.slice sa sm sc,.string r2.1.op,.string r2.1.name,.int .i64 (r2.1.kind:Nat),.int .i64 r2.1.n,.int .i64 (r2.1.pl:Nat),.slice sa20 sm20 sc20] 31)) y20.heap.size 0 t (.slice sa sm sc) from ⟨by simp,by simp,by simp,by simp,by simp,by simp⟩)
     have C6:=hid (show NC (y20.alloc (.cells #[.string t.op,.string t.name,.int .i64 (t.kind:Nat),.int .i64 t.n,.int .i64 (t.pl:Nat),.slice sa sm sc,.string r2.1.op,.string r2.1.name,.int .i64 (r2.1.kind:Nat),.int .i64 r2.1.n,.int .i64 (r2.1.pl:Nat),.slice sa20 sm20 sc20] 31)) y20.heap.size 6 r2.1 (.slice sa20 sm20 sc20) from ⟨by simp,by simp,by simp,by simp,by simp,by simp⟩)
     have QL2:=hid LP.out.bq.b.lt
     have nq:n0≤q:=LP.out.bq.l
     have NN7:=hid (nd_two2 (c:=2) (S:=fun g=>n0≤g∧g≠q) ⟨by have:=QL2.out;omega,by have:=QL2.out;omega⟩ C0.out C6.out (LP.out.bq.d.keep fun g s l=>⟨s,HS7.out.block g l⟩) (BB.out.d.keep fun g s l=>⟨⟨by omega,by omega⟩,HS7.out.block g l⟩))
     replace LP:=hid (LP.out.next HS7.out)
     clear HS7 C0 C6
     obtain ⟨k0,k1,k2,k3,k4,k5,kz⟩:=LP.out.bq.b
     replace LP:=hid (show Lp w (((((((y20.alloc (.cells #[.string t.op,.string t.name,.int .i64 (t.kind:Nat),.int .i64 t.n,.int .i64 (t.pl:Nat),.slice sa sm sc,.string r2.1.op,.string r2.1.name,.int .i64 (r2.1.kind:Nat),.int .i64 r2.1.n,.int .i64 (r2.1.pl:Nat),.slice sa20 sm20 sc20] 31)).setCell ⟨q,0,none⟩ (.string ⟨#[62]⟩)).setCell ⟨q,1,none⟩ (.string ⟨#[]⟩)).setCell ⟨q,2,none⟩ (.int .i64 0)).setCell ⟨q,3,none⟩ (.int .i64 0)).setCell ⟨q,4,none⟩ (.int .i64 (aw z.l:Nat))).setCell ⟨q,5,none⟩ (.slice (some ⟨y20.heap.size,0,none⟩) 2 2)) p b c ws d n0 q bo [⟨#[60]⟩,⟨#[60,61]⟩,⟨#[62]⟩,⟨#[62,61]⟩,⟨#[61,61]⟩,⟨#[33,61]⟩] (two ⟨#[62]⟩ (aw z.l) t r2.1) (.slice (some ⟨y20.heap.size,0,none⟩) 2 2) r2.2 from LP.out.up (two ⟨#[62]⟩ (aw z.l) t r2.1) (.slice (some ⟨y20.heap.size,0,none⟩) 2 2) NN7.out (by omega))
     go_upto_region 16 with fail
     generalize World.setCell _ ⟨q,5,none⟩ _=y21 at *
     generalize y20.heap.size=bz at *
     clear m0 m1 m2 m3 m4 m5 mz k0 k1 k2 k3 k4 k5 kz e0 e1 e2 e3 e4 e5 BB NN7
     have RZ:=hid (show R=(two ⟨#[62]⟩ (aw z.l) t r2.1,r2.2) from by rw [← RI.out.1,loop_two OT.out (by have:=ZL.out.1;have:=RI.out.2;omega),R2.out,TW.out])
     clear RI OA OT
     have RZ':=RZ.out
     subst RZ'
     go_upto_region 17 with fail
     obtain ⟨u0,u1,u2,u3,u4,u5,uz⟩:=LP.out.hb
     obtain ⟨m0,m1,m2,m3,m4,m5,mz⟩:=(show B6 _ q (.string ⟨#[62]⟩) (.string ⟨#[]⟩) (.int .i64 0) (.int .i64 0) (.int .i64 (aw z.l:Nat)) (.slice (some ⟨bz,0,none⟩) 2 2) from LP.out.bq.b)
     have nq:n0≤q:=LP.out.bq.l
     have BF:=hid (LP.out.hb.sets (.string ⟨#[62]⟩) (.string ⟨#[]⟩) (.int .i64 0) (.int .i64 0) (.int .i64 (aw z.l:Nat)) (.slice (some ⟨bz,0,none⟩) 2 2))
     have SF:=hid (LP.out.hs.put6 (q:=w.heap.size) (by omega) (by omega) (.string ⟨#[62]⟩) (.string ⟨#[]⟩) (.int .i64 0) (.int .i64 0) (.int .i64 (aw z.l:Nat)) (.slice (some ⟨bz,0,none⟩) 2 2))
     have GF:=hid (LP.out.hg.put6 (q:=w.heap.size) (by omega) (.string ⟨#[62]⟩) (.string ⟨#[]⟩) (.int .i64 0) (.int .i64 0) (.int .i64 (aw z.l:Nat)) (.slice (some ⟨bz,0,none⟩) 2 2))
     have NF:=hid ((LP.out.bq.d.keep (S':=fun g=>n0≤g) fun g s l=>⟨s.1,rfl⟩).put6x (q:=w.heap.size) (m:=w.heap.size) wn (by omega) (.string ⟨#[62]⟩) (.string ⟨#[]⟩) (.int .i64 0) (.int .i64 0) (.int .i64 (aw z.l:Nat)) (.slice (some ⟨bz,0,none⟩) 2 2))
     go_wp2_with fail
     generalize World.setCell _ ⟨w.heap.size,5,none⟩ _=wf at *
     obtain ⟨q0,q1,q2,q3,q4,q5,_⟩:=BF.out
     exact bodyPost_ret (v:=.agg #[.string ⟨#[62]⟩,.string ⟨#[]⟩,.int .i64 0,.int .i64 0,.int .i64 (aw z.l:Nat),.slice (some ⟨bz,0,none⟩) 2 2]) (by simp [results,Tryd.results71,go_sem,q0,q1,q2,q3,q4,q5]) rfl ⟨GF.out,SF.out,_,rfl,_,rfl,NF.out⟩
    | false =>
     have Y2:=hid y2
     clear y2
     cases y3:z.is ⟨#[62,61]⟩ with
     | true =>
      have Y3:=hid y3
      clear y3
      rw [rounds_succ]
      have o0:=LP.out.os 0 _ rfl
      have TK:=hid (rtake_any LP.out.hs ⟨#[60]⟩)
      rw [tk_no Y0.out,Y0.out] at TK
      go_wp2_with fail
      go_at_call 41
      with_reducible refine Calls.mono TK.out ?_
      rintro e w10 ⟨rfl,h10,g10⟩
      replace LP:=hid (LP.out.gr h10 g10)
      have p0:=LP.out.os 0 _ rfl
      clear h10 g10 TK o0
      go_wp2_with fail
      rw [rounds_succ]
      have o1:=LP.out.os 1 _ rfl
      have TK:=hid (rtake_any LP.out.hs ⟨#[60,61]⟩)
      rw [tk_no Y1.out,Y1.out] at TK
      go_wp2_with fail
      go_at_call 41
      with_reducible refine Calls.mono TK.out ?_
      rintro e w11 ⟨rfl,h11,g11⟩
      replace LP:=hid (LP.out.gr h11 g11)
      have p1:=LP.out.os 1 _ rfl
      clear h11 g11 TK o1
      go_wp2_with fail
      rw [rounds_succ]
      have o2:=LP.out.os 2 _ rfl
      have TK:=hid (rtake_any LP.out.hs ⟨#[62]⟩)
      rw [tk_no Y2.out,Y2.out] at TK
      go_wp2_with fail
      go_at_call 41
      with_reducible refine Calls.mono TK.out ?_
      rintro e w12 ⟨rfl,h12,g12⟩
      replace LP:=hid (LP.out.gr h12 g12)
      have p2:=LP.out.os 2 _ rfl
      clear h12 g12 TK o2
      go_wp2_with fail
      rw [rounds_succ]
      have o3:=LP.out.os 3 _ rfl
      have TK:=hid (rtake_any LP.out.hs ⟨#[62,61]⟩)
      rw [tk_yes Y3.out,Y3.out] at TK
      go_wp2_with fail
      go_at_call 41
      with_reducible refine Calls.mono TK.out ?_
      rintro e w13 ⟨rfl,h13,g13⟩
      replace LP:=hid (LP.out.gr h13 g13)
      have p3:=LP.out.os 3 _ rfl
      clear h13 g13 TK o3
      go_wp2_with fail
      rw [rounds_succ]
      go_upto_region 12 with fail
      have TW:=hid (is_tw Y3.out)
      have OT:=hid (show opAt 2 z=true from by rw [OA.out];simp [rowOps,Y3.out])
      obtain ⟨r2,hr2⟩:∃ r2,B z.nx=r2:=⟨_,rfl⟩
      have EC:=hid (BH.out _ _ LP.out.hs)
      rw [hr2] at EC
      have R2:=hid hr2
      clear hr2
      go_upto_region 15 with (go_at_call 71;with_reducible refine Calls.mono EC.out ?_;rintro e w20 h20;obtain ⟨g20,s20,sa20,sm20,sc20,rfl,nv20⟩:=h20.parts;have QL:=hid LP.out.bq.b.lt;have NV20:=hid nv20;replace LP:=hid (LP.out.gr s20 g20);have GS:=hid g20.size;clear h20 g20 s20 nv20 EC)
      have BB:=hid (Bx.new (m:=q+1) NV20.out QL.out (Nat.le_trans QL.out GS.out) 31)
      have AL:=hid (show Below w20.heap.size w20 (w20.alloc (.cells #[.string r2.1.op,.string r2.1.name,.int .i64 (r2.1.kind:Nat),.int .i64 r2.1.n,.int .i64 (r2.1.pl:Nat),.slice sa20 sm20 sc20] 31)) from (Below.refl _ _).alloc (Nat.le_refl _) _)
      replace LP:=hid (LP.out.next AL.out)
      have gb:q<w20.heap.size:=BB.out.l
      clear AL NV20 QL GS
      generalize World.alloc w20 _=y20 at *
      generalize w20.heap.size=bb at *
      obtain ⟨e0,e1,e2,e3,e4,e5,_⟩:=BB.out.b
      obtain ⟨m0,m1,m2,m3,m4,m5,mz⟩:=LP.out.bq.b
      have HS7:=hid (show Below y20.heap.size y20 (y20.alloc (.cells #[.string t.op,.string t.name,.int .i64 (t.kind:Nat),.int .i64 t.n,.int .i64 (t.pl:Nat),.slice sa sm sc,.string r2.1.op,.string r2.1.name,.int .i64 (r2.1.kind:Nat),.int .i64 r2.1.n,.int .i64 (r2.1.pl:Nat),.slice sa20 sm20 sc20] 31)) from (Below.refl _ _).alloc (Nat.le_refl _) _)
      have C0:=hid (show NC (y20.alloc (.cells #[.string t.op,.string t.name,.int .i64 (t.kind:Nat),.int .i64 t.n,.int .i64 (t.pl:Nat),.slice sa sm sc,.string r2.1.op,.string r2.1.name,.int .i64 (r2.1.kind:Nat),.int .i64 r2.1.n,.int .i64 (r2.1.pl:Nat),.slice sa20 sm20 sc20] 31)) y20.heap.size 0 t (.slice sa sm sc) from ⟨by simp,by simp,by simp,by simp,by simp,by simp⟩)
      have C6:=hid (show NC (y20.alloc (.cells #[.string t.op,.string t.name,.int .i64 (t.kind:Nat),.int .i64 t.n,.int .i64 (t.pl:Nat),.slice sa sm sc,.string r2.1.op,.string r2.1.name,.int .i64 (r2.1.kind:Nat),.int .i64 r2.1.n,.int .i64 (r2.1.pl:Nat),.slice sa20 sm20 sc20] 31)) y20.heap.size 6 r2.1 (.slice sa20 sm20 sc20) from ⟨by simp,by simp,by simp,by simp,by simp,by simp⟩)
      have QL2:=hid LP.out.bq.b.lt
      have nq:n0≤q:=LP.out.bq.l
      have NN7:=hid (nd_two2 (c:=2) (S:=fun g=>n0≤g∧g≠q) ⟨by have:=QL2.out;omega,by have:=QL2.out;omega⟩ C0.out C6.out (LP.out.bq.d.keep fun g s l=>⟨s,HS7.out.block g l⟩) (BB.out.d.keep fun g s l=>⟨⟨by omega,by omega⟩,HS7.out.block g l⟩))
      replace LP:=hid (LP.out.next HS7.out)
      clear HS7 C0 C6
      obtain ⟨k0,k1,k2,k3,k4,k5,kz⟩:=LP.out.bq.b
      replace LP:=hid (show Lp w (((((((y20.alloc (.cells #[.string t.op,.string t.name,.int .i64 (t.kind:Nat),.int .i64 t.n,.int .i64 (t.pl:Nat),.slice sa sm sc,.string r2.1.op,.string r2.1.name,.int .i64 (r2.1.kind:Nat),.int .i64 r2.1.n,.int .i64 (r2.1.pl:Nat),.slice sa20 sm20 sc20] 31)).setCell ⟨q,0,none⟩ (.string ⟨#[62,61]⟩)).setCell ⟨q,1,none⟩ (.string ⟨#[]⟩)).setCell ⟨q,2,none⟩ (.int .i64 0)).setCell ⟨q,3,none⟩ (.int .i64 0)).setCell ⟨q,4,none⟩ (.int .i64 (aw z.l:Nat))).setCell ⟨q,5,none⟩ (.slice (some ⟨y20.heap.size,0,none⟩) 2 2)) p b c ws d n0 q bo [⟨#[60]⟩,⟨#[60,61]⟩,⟨#[62]⟩,⟨#[62,61]⟩,⟨#[61,61]⟩,⟨#[33,61]⟩] (two ⟨#[62,61]⟩ (aw z.l) t r2.1) (.slice (some ⟨y20.heap.size,0,none⟩) 2 2) r2.2 from LP.out.up (two ⟨#[62,61]⟩ (aw z.l) t r2.1) (.slice (some ⟨y20.heap.size,0,none⟩) 2 2) NN7.out (by omega))
      go_upto_region 16 with fail
      generalize World.setCell _ ⟨q,5,none⟩ _=y21 at *
      generalize y20.heap.size=bz at *
      clear m0 m1 m2 m3 m4 m5 mz k0 k1 k2 k3 k4 k5 kz e0 e1 e2 e3 e4 e5 BB NN7
      have RZ:=hid (show R=(two ⟨#[62,61]⟩ (aw z.l) t r2.1,r2.2) from by rw [← RI.out.1,loop_two OT.out (by have:=ZL.out.1;have:=RI.out.2;omega),R2.out,TW.out])
      clear RI OA OT
      have RZ':=RZ.out
      subst RZ'
      go_upto_region 17 with fail
      obtain ⟨u0,u1,u2,u3,u4,u5,uz⟩:=LP.out.hb
      obtain ⟨m0,m1,m2,m3,m4,m5,mz⟩:=(show B6 _ q (.string ⟨#[62,61]⟩) (.string ⟨#[]⟩) (.int .i64 0) (.int .i64 0) (.int .i64 (aw z.l:Nat)) (.slice (some ⟨bz,0,none⟩) 2 2) from LP.out.bq.b)
      have nq:n0≤q:=LP.out.bq.l
      have BF:=hid (LP.out.hb.sets (.string ⟨#[62,61]⟩) (.string ⟨#[]⟩) (.int .i64 0) (.int .i64 0) (.int .i64 (aw z.l:Nat)) (.slice (some ⟨bz,0,none⟩) 2 2))
      have SF:=hid (LP.out.hs.put6 (q:=w.heap.size) (by omega) (by omega) (.string ⟨#[62,61]⟩) (.string ⟨#[]⟩) (.int .i64 0) (.int .i64 0) (.int .i64 (aw z.l:Nat)) (.slice (some ⟨bz,0,none⟩) 2 2))
      have GF:=hid (LP.out.hg.put6 (q:=w.heap.size) (by omega) (.string ⟨#[62,61]⟩) (.string ⟨#[]⟩) (.int .i64 0) (.int .i64 0) (.int .i64 (aw z.l:Nat)) (.slice (some ⟨bz,0,none⟩) 2 2))
      have NF:=hid ((LP.out.bq.d.keep (S':=fun g=>n0≤g) fun g s l=>⟨s.1,rfl⟩).put6x (q:=w.heap.size) (m:=w.heap.size) wn (by omega) (.string ⟨#[62,61]⟩) (.string ⟨#[]⟩) (.int .i64 0) (.int .i64 0) (.int .i64 (aw z.l:Nat)) (.slice (some ⟨bz,0,none⟩) 2 2))
      go_wp2_with fail
      generalize World.setCell _ ⟨w.heap.size,5,none⟩ _=wf at *
      obtain ⟨q0,q1,q2,q3,q4,q5,_⟩:=BF.out
      exact bodyPost_ret (v:=.agg #[.string ⟨#[62,61]⟩,.string ⟨#[]⟩,.int .i64 0,.int .i64 0,.int .i64 (aw z.l:Nat),.slice (some ⟨bz,0,none⟩) 2 2]) (by simp [results,Tryd.results71,go_sem,q0,q1,q2,q3,q4,q5]) rfl ⟨GF.out,SF.out,_,rfl,_,rfl,NF.out⟩
     | false =>
      have Y3:=hid y3
      clear y3
      cases y4:z.is ⟨#[61,61]⟩ with
      | true =>
       have Y4:=hid y4
       clear y4
       rw [rounds_succ]
       have o0:=LP.out.os 0 _ rfl
       have TK:=hid (rtake_any LP.out.hs ⟨#[60]⟩)
       rw [tk_no Y0.out,Y0.out] at TK
       go_wp2_with fail
       go_at_call 41
       with_reducible refine Calls.mono TK.out ?_
       rintro e w10 ⟨rfl,h10,g10⟩
       replace LP:=hid (LP.out.gr h10 g10)
       have p0:=LP.out.os 0 _ rfl
       clear h10 g10 TK o0
       go_wp2_with fail
       rw [rounds_succ]
       have o1:=LP.out.os 1 _ rfl
       have TK:=hid (rtake_any LP.out.hs ⟨#[60,61]⟩)
       rw [tk_no Y1.out,Y1.out] at TK
       go_wp2_with fail
       go_at_call 41
       with_reducible refine Calls.mono TK.out ?_
       rintro e w11 ⟨rfl,h11,g11⟩
       replace LP:=hid (LP.out.gr h11 g11)
       have p1:=LP.out.os 1 _ rfl
       clear h11 g11 TK o1
       go_wp2_with fail
       rw [rounds_succ]
       have o2:=LP.out.os 2 _ rfl
       have TK:=hid (rtake_any LP.out.hs ⟨#[62]⟩)
       rw [tk_no Y2.out,Y2.out] at TK
       go_wp2_with fail
       go_at_call 41
       with_reducible refine Calls.mono TK.out ?_
       rintro e w12 ⟨rfl,h12,g12⟩
       replace LP:=hid (LP.out.gr h12 g12)
       have p2:=LP.out.os 2 _ rfl
       clear h12 g12 TK o2
       go_wp2_with fail
       rw [rounds_succ]
       have o3:=LP.out.os 3 _ rfl
       have TK:=hid (rtake_any LP.out.hs ⟨#[62,61]⟩)
       rw [tk_no Y3.out,Y3.out] at TK
       go_wp2_with fail
       go_at_call 41
       with_reducible refine Calls.mono TK.out ?_
       rintro e w13 ⟨rfl,h13,g13⟩
       replace LP:=hid (LP.out.gr h13 g13)
       have p3:=LP.out.os 3 _ rfl
       clear h13 g13 TK o3
       go_wp2_with fail
       rw [rounds_succ]
       have o4:=LP.out.os 4 _ rfl
       have TK:=hid (rtake_any LP.out.hs ⟨#[61,61]⟩)
       rw [tk_yes Y4.out,Y4.out] at TK
       go_wp2_with fail
       go_at_call 41
       with_reducible refine Calls.mono TK.out ?_
       rintro e w14 ⟨rfl,h14,g14⟩
       replace LP:=hid (LP.out.gr h14 g14)
       have p4:=LP.out.os 4 _ rfl
       clear h14 g14 TK o4
       go_wp2_with fail
       rw [rounds_succ]
       go_upto_region 12 with fail
       have TW:=hid (is_tw Y4.out)
       have OT:=hid (show opAt 2 z=true from by rw [OA.out];simp [rowOps,Y4.out])
       obtain ⟨r2,hr2⟩:∃ r2,B z.nx=r2:=⟨_,rfl⟩
       have EC:=hid (BH.out _ _ LP.out.hs)
       rw [hr2] at EC
       have R2:=hid hr2
       clear hr2
       go_upto_region 15 with (go_at_call 71;with_reducible refine Calls.mono EC.out ?_;rintro e w20 h20;obtain ⟨g20,s20,sa20,sm20,sc20,rfl,nv20⟩:=h20.parts;have QL:=hid LP.out.bq.b.lt;have NV20:=hid nv20;replace LP:=hid (LP.out.gr s20 g20);have GS:=hid g20.size;clear h20 g20 s20 nv20 EC)
       have BB:=hid (Bx.new (m:=q+1) NV20.out QL.out (Nat.le_trans QL.out GS.out) 31)
       have AL:=hid (show Below w20.heap.size w20 (w20.alloc (.cells #[.string r2.1.op,.string r2.1.name,.int .i64 (r2.1.kind:Nat),.int .i64 r2.1.n,.int .i64 (r2.1.pl:Nat),.slice sa20 sm20 sc20] 31)) from (Below.refl _ _).alloc (Nat.le_refl _) _)
       replace LP:=hid (LP.out.next AL.out)
       have gb:q<w20.heap.size:=BB.out.l
       clear AL NV20 QL GS
       generalize World.alloc w20 _=y20 at *
       generalize w20.heap.size=bb at *
       obtain ⟨e0,e1,e2,e3,e4,e5,_⟩:=BB.out.b
       obtain ⟨m0,m1,m2,m3,m4,m5,mz⟩:=LP.out.bq.b
       have HS7:=hid (show Below y20.heap.size y20 (y20.alloc (.cells #[.string t.op,.string t.name,.int .i64 (t.kind:Nat),.int .i64 t.n,.int .i64 (t.pl:Nat),.slice sa sm sc,.string r2.1.op,.string r2.1.name,.int .i64 (r2.1.kind:Nat),.int .i64 r2.1.n,.int .i64 (r2.1.pl:Nat),.slice sa20 sm20 sc20] 31)) from (Below.refl _ _).alloc (Nat.le_refl _) _)
       have C0:=hid (show NC (y20.alloc (.cells #[.string t.op,.string t.name,.int .i64 (t.kind:Nat),.int .i64 t.n,.int .i64 (t.pl:Nat),.slice sa sm sc,.string r2.1.op,.string r2.1.name,.int .i64 (r2.1.kind:Nat),.int .i64 r2.1.n,.int .i64 (r2.1.pl:Nat),.slice sa20 sm20 sc20] 31)) y20.heap.size 0 t (.slice sa sm sc) from ⟨by simp,by simp,by simp,by simp,by simp,by simp⟩)
       have C6:=hid (show NC (y20.alloc (.cells #[.string t.op,.string t.name,.int .i64 (t.kind:Nat),.int .i64 t.n,.int .i64 (t.pl:Nat),.slice sa sm sc,.string r2.1.op,.string r2.1.name,.int .i64 (r2.1.kind:Nat),.int .i64 r2.1.n,.int .i64 (r2.1.pl:Nat),.slice sa20 sm20 sc20] 31)) y20.heap.size 6 r2.1 (.slice sa20 sm20 sc20) from ⟨by simp,by simp,by simp,by simp,by simp,by simp⟩)
       have QL2:=hid LP.out.bq.b.lt
       have nq:n0≤q:=LP.out.bq.l
       have NN7:=hid (nd_two2 (c:=2) (S:=fun g=>n0≤g∧g≠q) ⟨by have:=QL2.out;omega,by have:=QL2.out;omega⟩ C0.out C6.out (LP.out.bq.d.keep fun g s l=>⟨s,HS7.out.block g l⟩) (BB.out.d.keep fun g s l=>⟨⟨by omega,by omega⟩,HS7.out.block g l⟩))
       replace LP:=hid (LP.out.next HS7.out)
       clear HS7 C0 C6
       obtain ⟨k0,k1,k2,k3,k4,k5,kz⟩:=LP.out.bq.b
       replace LP:=hid (show Lp w (((((((y20.alloc (.cells #[.string t.op,.string t.name,.int .i64 (t.kind:Nat),.int .i64 t.n,.int .i64 (t.pl:Nat),.slice sa sm sc,.string r2.1.op,.string r2.1.name,.int .i64 (r2.1.kind:Nat),.int .i64 r2.1.n,.int .i64 (r2.1.pl:Nat),.slice sa20 sm20 sc20] 31)).setCell ⟨q,0,none⟩ (.string ⟨#[61,61]⟩)).setCell ⟨q,1,none⟩ (.string ⟨#[]⟩)).setCell ⟨q,2,none⟩ (.int .i64 0)).setCell ⟨q,3,none⟩ (.int .i64 0)).setCell ⟨q,4,none⟩ (.int .i64 (aw z.l:Nat))).setCell ⟨q,5,none⟩ (.slice (some ⟨y20.heap.size,0,none⟩) 2 2)) p b c ws d n0 q bo [⟨#[60]⟩,⟨#[60,61]⟩,⟨#[62]⟩,⟨#[62,61]⟩,⟨#[61,61]⟩,⟨#[33,61]⟩] (two ⟨#[61,61]⟩ (aw z.l) t r2.1) (.slice (some ⟨y20.heap.size,0,none⟩) 2 2) r2.2 from LP.out.up (two ⟨#[61,61]⟩ (aw z.l) t r2.1) (.slice (some ⟨y20.heap.size,0,none⟩) 2 2) NN7.out (by omega))
       go_upto_region 16 with fail
       generalize World.setCell _ ⟨q,5,none⟩ _=y21 at *
       generalize y20.heap.size=bz at *
       clear m0 m1 m2 m3 m4 m5 mz k0 k1 k2 k3 k4 k5 kz e0 e1 e2 e3 e4 e5 BB NN7
       have RZ:=hid (show R=(two ⟨#[61,61]⟩ (aw z.l) t r2.1,r2.2) from by rw [← RI.out.1,loop_two OT.out (by have:=ZL.out.1;have:=RI.out.2;omega),R2.out,TW.out])
       clear RI OA OT
       have RZ':=RZ.out
       subst RZ'
       go_upto_region 17 with fail
       obtain ⟨u0,u1,u2,u3,u4,u5,uz⟩:=LP.out.hb
       obtain ⟨m0,m1,m2,m3,m4,m5,mz⟩:=(show B6 _ q (.string ⟨#[61,61]⟩) (.string ⟨#[]⟩) (.int .i64 0) (.int .i64 0) (.int .i64 (aw z.l:Nat)) (.slice (some ⟨bz,0,none⟩) 2 2) from LP.out.bq.b)
       have nq:n0≤q:=LP.out.bq.l
       have BF:=hid (LP.out.hb.sets (.string ⟨#[61,61]⟩) (.string ⟨#[]⟩) (.int .i64 0) (.int .i64 0) (.int .i64 (aw z.l:Nat)) (.slice (some ⟨bz,0,none⟩) 2 2))
       have SF:=hid (LP.out.hs.put6 (q:=w.heap.size) (by omega) (by omega) (.string ⟨#[61,61]⟩) (.string ⟨#[]⟩) (.int .i64 0) (.int .i64 0) (.int .i64 (aw z.l:Nat)) (.slice (some ⟨bz,0,none⟩) 2 2))
       have GF:=hid (LP.out.hg.put6 (q:=w.heap.size) (by omega) (.string ⟨#[61,61]⟩) (.string ⟨#[]⟩) (.int .i64 0) (.int .i64 0) (.int .i64 (aw z.l:Nat)) (.slice (some ⟨bz,0,none⟩) 2 2))
       have NF:=hid ((LP.out.bq.d.keep (S':=fun g=>n0≤g) fun g s l=>⟨s.1,rfl⟩).put6x (q:=w.heap.size) (m:=w.heap.size) wn (by omega) (.string ⟨#[61,61]⟩) (.string ⟨#[]⟩) (.int .i64 0) (.int .i64 0) (.int .i64 (aw z.l:Nat)) (.slice (some ⟨bz,0,none⟩) 2 2))
       go_wp2_with fail
       generalize World.setCell _ ⟨w.heap.size,5,none⟩ _=wf at *
       obtain ⟨q0,q1,q2,q3,q4,q5,_⟩:=BF.out
       exact bodyPost_ret (v:=.agg #[.string ⟨#[61,61]⟩,.string ⟨#[]⟩,.int .i64 0,.int .i64 0,.int .i64 (aw z.l:Nat),.slice (some ⟨bz,0,none⟩) 2 2]) (by simp [results,Tryd.results71,go_sem,q0,q1,q2,q3,q4,q5]) rfl ⟨GF.out,SF.out,_,rfl,_,rfl,NF.out⟩
      | false =>
       have Y4:=hid y4
       clear y4
       cases y5:z.is ⟨#[33,61]⟩ with
       | true =>
        have Y5:=hid y5
        clear y5
        rw [rounds_succ]
        have o0:=LP.out.os 0 _ rfl
        have TK:=hid (rtake_any LP.out.hs ⟨#[60]⟩)
        rw [tk_no Y0.out,Y0.out] at TK
        go_wp2_with fail
        go_at_call 41
        with_reducible refine Calls.mono TK.out ?_
        rintro e w10 ⟨rfl,h10,g10⟩
        replace LP:=hid (LP.out.gr h10 g10)
        have p0:=LP.out.os 0 _ rfl
        clear h10 g10 TK o0
        go_wp2_with fail
        rw [rounds_succ]
        have o1:=LP.out.os 1 _ rfl
        have TK:=hid (rtake_any LP.out.hs ⟨#[60,61]⟩)
        rw [tk_no Y1.out,Y1.out] at TK
        go_wp2_with fail
        go_at_call 41
        with_reducible refine Calls.mono TK.out ?_
        rintro e w11 ⟨rfl,h11,g11⟩
        replace LP:=hid (LP.out.gr h11 g11)
        have p1:=LP.out.os 1 _ rfl
        clear h11 g11 TK o1
        go_wp2_with fail
        rw [rounds_succ]
        have o2:=LP.out.os 2 _ rfl
        have TK:=hid (rtake_any LP.out.hs ⟨#[62]⟩)
        rw [tk_no Y2.out,Y2.out] at TK
        go_wp2_with fail
        go_at_call 41
        with_reducible refine Calls.mono TK.out ?_
        rintro e w12 ⟨rfl,h12,g12⟩
        replace LP:=hid (LP.out.gr h12 g12)
        have p2:=LP.out.os 2 _ rfl
        clear h12 g12 TK o2
        go_wp2_with fail
        rw [rounds_succ]
        have o3:=LP.out.os 3 _ rfl
        have TK:=hid (rtake_any LP.out.hs ⟨#[62,61]⟩)
        rw [tk_no Y3.out,Y3.out] at TK
        go_wp2_with fail
        go_at_call 41
        with_reducible refine Calls.mono TK.out ?_
        rintro e w13 ⟨rfl,h13,g13⟩
        replace LP:=hid (LP.out.gr h13 g13)
        have p3:=LP.out.os 3 _ rfl
        clear h13 g13 TK o3
        go_wp2_with fail
        rw [rounds_succ]
        have o4:=LP.out.os 4 _ rfl
        have TK:=hid (rtake_any LP.out.hs ⟨#[61,61]⟩)
        rw [tk_no Y4.out,Y4.out] at TK
        go_wp2_with fail
        go_at_call 41
        with_reducible refine Calls.mono TK.out ?_
        rintro e w14 ⟨rfl,h14,g14⟩
        replace LP:=hid (LP.out.gr h14 g14)
        have p4:=LP.out.os 4 _ rfl
        clear h14 g14 TK o4
        go_wp2_with fail
        rw [rounds_succ]
        have o5:=LP.out.os 5 _ rfl
        have TK:=hid (rtake_any LP.out.hs ⟨#[33,61]⟩)
        rw [tk_yes Y5.out,Y5.out] at TK
        go_wp2_with fail
        go_at_call 41
        with_reducible refine Calls.mono TK.out ?_
        rintro e w15 ⟨rfl,h15,g15⟩
        replace LP:=hid (LP.out.gr h15 g15)
        have p5:=LP.out.os 5 _ rfl
        clear h15 g15 TK o5
        go_wp2_with fail
        rw [rounds_succ]
        go_upto_region 12 with fail
        have TW:=hid (is_tw Y5.out)
        have OT:=hid (show opAt 2 z=true from by rw [OA.out];simp [rowOps,Y5.out])
        obtain ⟨r2,hr2⟩:∃ r2,B z.nx=r2:=⟨_,rfl⟩
        have EC:=hid (BH.out _ _ LP.out.hs)
        rw [hr2] at EC
        have R2:=hid hr2
        clear hr2
        go_upto_region 15 with (go_at_call 71;with_reducible refine Calls.mono EC.out ?_;rintro e w20 h20;obtain ⟨g20,s20,sa20,sm20,sc20,rfl,nv20⟩:=h20.parts;have QL:=hid LP.out.bq.b.lt;have NV20:=hid nv20;replace LP:=hid (LP.out.gr s20 g20);have GS:=hid g20.size;clear h20 g20 s20 nv20 EC)
        have BB:=hid (Bx.new (m:=q+1) NV20.out QL.out (Nat.le_trans QL.out GS.out) 31)
        have AL:=hid (show Below w20.heap.size w20 (w20.alloc (.cells #[.string r2.1.op,.string r2.1.name,.int .i64 (r2.1.kind:Nat),.int .i64 r2.1.n,.int .i64 (r2.1.pl:Nat),.slice sa20 sm20 sc20] 31)) from (Below.refl _ _).alloc (Nat.le_refl _) _)
        replace LP:=hid (LP.out.next AL.out)
        have gb:q<w20.heap.size:=BB.out.l
        clear AL NV20 QL GS
        generalize World.alloc w20 _=y20 at *
        generalize w20.heap.size=bb at *
        obtain ⟨e0,e1,e2,e3,e4,e5,_⟩:=BB.out.b
        obtain ⟨m0,m1,m2,m3,m4,m5,mz⟩:=LP.out.bq.b
        have HS7:=hid (show Below y20.heap.size y20 (y20.alloc (.cells #[.string t.op,.string t.name,.int .i64 (t.kind:Nat),.int .i64 t.n,.int .i64 (t.pl:Nat),.slice sa sm sc,.string r2.1.op,.string r2.1.name,.int .i64 (r2.1.kind:Nat),.int .i64 r2.1.n,.int .i64 (r2.1.pl:Nat),.slice sa20 sm20 sc20] 31)) from (Below.refl _ _).alloc (Nat.le_refl _) _)
        have C0:=hid (show NC (y20.alloc (.cells #[.string t.op,.string t.name,.int .i64 (t.kind:Nat),.int .i64 t.n,.int .i64 (t.pl:Nat),.slice sa sm sc,.string r2.1.op,.string r2.1.name,.int .i64 (r2.1.kind:Nat),.int .i64 r2.1.n,.int .i64 (r2.1.pl:Nat),.slice sa20 sm20 sc20] 31)) y20.heap.size 0 t (.slice sa sm sc) from ⟨by simp,by simp,by simp,by simp,by simp,by simp⟩)
        have C6:=hid (show NC (y20.alloc (.cells #[.string t.op,.string t.name,.int .i64 (t.kind:Nat),.int .i64 t.n,.int .i64 (t.pl:Nat),.slice sa sm sc,.string r2.1.op,.string r2.1.name,.int .i64 (r2.1.kind:Nat),.int .i64 r2.1.n,.int .i64 (r2.1.pl:Nat),.slice sa20 sm20 sc20] 31)) y20.heap.size 6 r2.1 (.slice sa20 sm20 sc20) from ⟨by simp,by simp,by simp,by simp,by simp,by simp⟩)
        have QL2:=hid LP.out.bq.b.lt
        have nq:n0≤q:=LP.out.bq.l
        have NN7:=hid (nd_two2 (c:=2) (S:=fun g=>n0≤g∧g≠q) ⟨by have:=QL2.out;omega,by have:=QL2.out;omega⟩ C0.out C6.out (LP.out.bq.d.keep fun g s l=>⟨s,HS7.out.block g l⟩) (BB.out.d.keep fun g s l=>⟨⟨by omega,by omega⟩,HS7.out.block g l⟩))
        replace LP:=hid (LP.out.next HS7.out)
        clear HS7 C0 C6
        obtain ⟨k0,k1,k2,k3,k4,k5,kz⟩:=LP.out.bq.b
        replace LP:=hid (show Lp w (((((((y20.alloc (.cells #[.string t.op,.string t.name,.int .i64 (t.kind:Nat),.int .i64 t.n,.int .i64 (t.pl:Nat),.slice sa sm sc,.string r2.1.op,.string r2.1.name,.int .i64 (r2.1.kind:Nat),.int .i64 r2.1.n,.int .i64 (r2.1.pl:Nat),.slice sa20 sm20 sc20] 31)).setCell ⟨q,0,none⟩ (.string ⟨#[33,61]⟩)).setCell ⟨q,1,none⟩ (.string ⟨#[]⟩)).setCell ⟨q,2,none⟩ (.int .i64 0)).setCell ⟨q,3,none⟩ (.int .i64 0)).setCell ⟨q,4,none⟩ (.int .i64 (aw z.l:Nat))).setCell ⟨q,5,none⟩ (.slice (some ⟨y20.heap.size,0,none⟩) 2 2)) p b c ws d n0 q bo [⟨#[60]⟩,⟨#[60,61]⟩,⟨#[62]⟩,⟨#[62,61]⟩,⟨#[61,61]⟩,⟨#[33,61]⟩] (two ⟨#[33,61]⟩ (aw z.l) t r2.1) (.slice (some ⟨y20.heap.size,0,none⟩) 2 2) r2.2 from LP.out.up (two ⟨#[33,61]⟩ (aw z.l) t r2.1) (.slice (some ⟨y20.heap.size,0,none⟩) 2 2) NN7.out (by omega))
        go_upto_region 16 with fail
        generalize World.setCell _ ⟨q,5,none⟩ _=y21 at *
        generalize y20.heap.size=bz at *
        clear m0 m1 m2 m3 m4 m5 mz k0 k1 k2 k3 k4 k5 kz e0 e1 e2 e3 e4 e5 BB NN7
        have RZ:=hid (show R=(two ⟨#[33,61]⟩ (aw z.l) t r2.1,r2.2) from by rw [← RI.out.1,loop_two OT.out (by have:=ZL.out.1;have:=RI.out.2;omega),R2.out,TW.out])
        clear RI OA OT
        have RZ':=RZ.out
        subst RZ'
        go_upto_region 17 with fail
        obtain ⟨u0,u1,u2,u3,u4,u5,uz⟩:=LP.out.hb
        obtain ⟨m0,m1,m2,m3,m4,m5,mz⟩:=(show B6 _ q (.string ⟨#[33,61]⟩) (.string ⟨#[]⟩) (.int .i64 0) (.int .i64 0) (.int .i64 (aw z.l:Nat)) (.slice (some ⟨bz,0,none⟩) 2 2) from LP.out.bq.b)
        have nq:n0≤q:=LP.out.bq.l
        have BF:=hid (LP.out.hb.sets (.string ⟨#[33,61]⟩) (.string ⟨#[]⟩) (.int .i64 0) (.int .i64 0) (.int .i64 (aw z.l:Nat)) (.slice (some ⟨bz,0,none⟩) 2 2))
        have SF:=hid (LP.out.hs.put6 (q:=w.heap.size) (by omega) (by omega) (.string ⟨#[33,61]⟩) (.string ⟨#[]⟩) (.int .i64 0) (.int .i64 0) (.int .i64 (aw z.l:Nat)) (.slice (some ⟨bz,0,none⟩) 2 2))
        have GF:=hid (LP.out.hg.put6 (q:=w.heap.size) (by omega) (.string ⟨#[33,61]⟩) (.string ⟨#[]⟩) (.int .i64 0) (.int .i64 0) (.int .i64 (aw z.l:Nat)) (.slice (some ⟨bz,0,none⟩) 2 2))
        have NF:=hid ((LP.out.bq.d.keep (S':=fun g=>n0≤g) fun g s l=>⟨s.1,rfl⟩).put6x (q:=w.heap.size) (m:=w.heap.size) wn (by omega) (.string ⟨#[33,61]⟩) (.string ⟨#[]⟩) (.int .i64 0) (.int .i64 0) (.int .i64 (aw z.l:Nat)) (.slice (some ⟨bz,0,none⟩) 2 2))
        go_wp2_with fail
        generalize World.setCell _ ⟨w.heap.size,5,none⟩ _=wf at *
        obtain ⟨q0,q1,q2,q3,q4,q5,_⟩:=BF.out
        exact bodyPost_ret (v:=.agg #[.string ⟨#[33,61]⟩,.string ⟨#[]⟩,.int .i64 0,.int .i64 0,.int .i64 (aw z.l:Nat),.slice (some ⟨bz,0,none⟩) 2 2]) (by simp [results,Tryd.results71,go_sem,q0,q1,q2,q3,q4,q5]) rfl ⟨GF.out,SF.out,_,rfl,_,rfl,NF.out⟩
       | false =>
        have Y5:=hid y5
        clear y5
        rw [rounds_succ]
        have o0:=LP.out.os 0 _ rfl
        have TK:=hid (rtake_any LP.out.hs ⟨#[60]⟩)
        rw [tk_no Y0.out,Y0.out] at TK
        go_wp2_with fail
        go_at_call 41
        with_reducible refine Calls.mono TK.out ?_
        rintro e w10 ⟨rfl,h10,g10⟩
        replace LP:=hid (LP.out.gr h10 g10)
        have p0:=LP.out.os 0 _ rfl
        clear h10 g10 TK o0
        go_wp2_with fail
        rw [rounds_succ]
        have o1:=LP.out.os 1 _ rfl
        have TK:=hid (rtake_any LP.out.hs ⟨#[60,61]⟩)
        rw [tk_no Y1.out,Y1.out] at TK
        go_wp2_with fail
        go_at_call 41
        with_reducible refine Calls.mono TK.out ?_
        rintro e w11 ⟨rfl,h11,g11⟩
        replace LP:=hid (LP.out.gr h11 g11)
        have p1:=LP.out.os 1 _ rfl
        clear h11 g11 TK o1
        go_wp2_with fail
        rw [rounds_succ]
        have o2:=LP.out.os 2 _ rfl
        have TK:=hid (rtake_any LP.out.hs ⟨#[62]⟩)
        rw [tk_no Y2.out,Y2.out] at TK
        go_wp2_with fail
        go_at_call 41
        with_reducible refine Calls.mono TK.out ?_
        rintro e w12 ⟨rfl,h12,g12⟩
        replace LP:=hid (LP.out.gr h12 g12)
        have p2:=LP.out.os 2 _ rfl
        clear h12 g12 TK o2
        go_wp2_with fail
        rw [rounds_succ]
        have o3:=LP.out.os 3 _ rfl
        have TK:=hid (rtake_any LP.out.hs ⟨#[62,61]⟩)
        rw [tk_no Y3.out,Y3.out] at TK
        go_wp2_with fail
        go_at_call 41
        with_reducible refine Calls.mono TK.out ?_
        rintro e w13 ⟨rfl,h13,g13⟩
        replace LP:=hid (LP.out.gr h13 g13)
        have p3:=LP.out.os 3 _ rfl
        clear h13 g13 TK o3
        go_wp2_with fail
        rw [rounds_succ]
        have o4:=LP.out.os 4 _ rfl
        have TK:=hid (rtake_any LP.out.hs ⟨#[61,61]⟩)
        rw [tk_no Y4.out,Y4.out] at TK
        go_wp2_with fail
        go_at_call 41
        with_reducible refine Calls.mono TK.out ?_
        rintro e w14 ⟨rfl,h14,g14⟩
        replace LP:=hid (LP.out.gr h14 g14)
        have p4:=LP.out.os 4 _ rfl
        clear h14 g14 TK o4
        go_wp2_with fail
        rw [rounds_succ]
        have o5:=LP.out.os 5 _ rfl
        have TK:=hid (rtake_any LP.out.hs ⟨#[33,61]⟩)
        rw [tk_no Y5.out,Y5.out] at TK
        go_wp2_with fail
        go_at_call 41
        with_reducible refine Calls.mono TK.out ?_
        rintro e w15 ⟨rfl,h15,g15⟩
        replace LP:=hid (LP.out.gr h15 g15)
        have p5:=LP.out.os 5 _ rfl
        clear h15 g15 TK o5
        go_wp2_with fail
        rw [rounds_succ]
        go_upto_region 12 with fail
        have RZ:=hid (show R=(t,z) from by rw [← RI.out.1];exact loopX_no (by rw [OA.out];simp [rowOps,Y0.out,Y1.out,Y2.out,Y3.out,Y4.out,Y5.out]))
        clear RI OA
        have RZ':=RZ.out
        subst RZ'
        obtain ⟨u0,u1,u2,u3,u4,u5,uz⟩:=LP.out.hb
        obtain ⟨m0,m1,m2,m3,m4,m5,mz⟩:=(show B6 _ q (.string t.op) (.string t.name) (.int .i64 (t.kind:Nat)) (.int .i64 t.n) (.int .i64 (t.pl:Nat)) (.slice sa sm sc) from LP.out.bq.b)
        have nq:n0≤q:=LP.out.bq.l
        have BF:=hid (LP.out.hb.sets (.string t.op) (.string t.name) (.int .i64 (t.kind:Nat)) (.int .i64 t.n) (.int .i64 (t.pl:Nat)) (.slice sa sm sc))
        have SF:=hid (LP.out.hs.put6 (q:=w.heap.size) (by omega) (by omega) (.string t.op) (.string t.name) (.int .i64 (t.kind:Nat)) (.int .i64 t.n) (.int .i64 (t.pl:Nat)) (.slice sa sm sc))
        have GF:=hid (LP.out.hg.put6 (q:=w.heap.size) (by omega) (.string t.op) (.string t.name) (.int .i64 (t.kind:Nat)) (.int .i64 t.n) (.int .i64 (t.pl:Nat)) (.slice sa sm sc))
        have NF:=hid ((LP.out.bq.d.keep (S':=fun g=>n0≤g) fun g s l=>⟨s.1,rfl⟩).put6x (q:=w.heap.size) (m:=w.heap.size) wn (by omega) (.string t.op) (.string t.name) (.int .i64 (t.kind:Nat)) (.int .i64 t.n) (.int .i64 (t.pl:Nat)) (.slice sa sm sc))
        go_wp2_with fail
        generalize World.setCell _ ⟨w.heap.size,5,none⟩ _=wf at *
        obtain ⟨q0,q1,q2,q3,q4,q5,_⟩:=BF.out
        exact bodyPost_ret (v:=.agg #[.string t.op,.string t.name,.int .i64 (t.kind:Nat),.int .i64 t.n,.int .i64 (t.pl:Nat),.slice sa sm sc]) (by simp [results,Tryd.results71,go_sem,q0,q1,q2,q3,q4,q5]) rfl ⟨GF.out,SF.out,_,rfl,_,rfl,NF.out⟩
end Go.Proofs.YtbeahnehjannpaaDoor
