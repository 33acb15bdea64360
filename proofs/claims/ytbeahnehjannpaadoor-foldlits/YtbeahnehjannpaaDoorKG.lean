/- Parts of the proof. -/
import Derived.Test.YtbeahnehjannpaaDoorKF
import Derived.BigQuiet
import Derived.Deep.RegionHeld3
namespace Go.Proofs.YtbeahnehjannpaaDoor
open Go.RowKit
set_option linter.unusedVariables false
set_option linter.unusedSimpArgs false
set_option maxRecDepth 100000 in
set_option maxHeartbeats 4000000 in
theorem rprim_lit {w:World} {p b c:Nat} {ws:List Wo} {d:Nat} {s:Sp} (h:Sw w p b c ws d s) (y0:s.islit=true) (r:Tr × Sp) (hr:s.lit=r) :
  Calls Tryd.prog 81 #[.pointer (some ⟨p,0,none⟩)] w fun e w'=>Rn w w' p b c ws d e r:=by
 have pl0:=h.pl
 have bl0:=h.bl
 have HB:=hid (B6.new w 31 (.string ⟨#[]⟩) (.string ⟨#[]⟩) (.int .i64 0) (.int .i64 0) (.int .i64 0) (.slice none 0 0))
 have HS0:Hid (Below w.heap.size w (w.alloc (.cells #[.string ⟨#[]⟩,.string ⟨#[]⟩,.int .i64 0,.int .i64 0,.int .i64 0,.slice none 0 0] 31))):=(Below.refl _ _).alloc (Nat.le_refl _) _
 have HS:=hid (h.next HS0.out)
 have HG:=hid ((Gr.refl w p).below HS0.out)
 have WS:=hid (show w.heap.size<(w.alloc (.cells #[.string ⟨#[]⟩,.string ⟨#[]⟩,.int .i64 0,.int .i64 0,.int .i64 0,.slice none 0 0] 31)).heap.size from by simp)
 have f0:=fd0
 have f1:=fd1
 have f3:=fd3
 have Y0:=hid y0
 clear h y0
 go_enter Tryd.func81,Tryd.ntmps81
 go_upto_region 1 with fail
 generalize World.alloc w _=w1 at *
 obtain ⟨n0,hn0⟩:∃ n,n=w1.heap.size:=⟨_,rfl⟩
 have wn:w.heap.size<n0:=by rw [hn0];exact WS.out
 have pn:p<n0:=by omega
 have bn:b<n0:=by omega
 replace WS:=hid (Nat.le_of_eq hn0)
 clear hn0 HS0
 have WC:=hid (rw_any HS.out)
 go_upto_region 2 with (go_at_call 40;with_reducible refine Calls.mono WC.out ?_;rintro e w2 ⟨rfl,b2⟩;replace HS:=hid (HS.out.next b2);replace HG:=hid (HG.out.below b2);replace HB:=hid (HB.out.next b2);replace WS:=hid (Nat.le_trans WS.out b2.size);clear b2 WC)
 have IC:=hid (rislit_any HS.out)
 rw [Y0.out] at IC
 go_upto_region 3 with (go_at_call 61;with_reducible refine Calls.mono IC.out ?_;rintro e w3 ⟨rfl,b3⟩;replace HS:=hid (HS.out.next b3);replace HG:=hid (HG.out.below b3);replace HB:=hid (HB.out.next b3);replace WS:=hid (Nat.le_trans WS.out b3.size);clear b3 IC)
 have PC:=hid (rlit_any HS.out)
 rw [hr] at PC
 go_wp2_with (go_at_call 48;with_reducible refine Calls.mono PC.out ?_;rintro e w9 h9;obtain ⟨g9,s9,sa9,sm9,sc9,rfl,nv9⟩:=h9.parts;have NV9:=hid nv9;replace HG:=hid (HG.out.trans g9);replace HB:=hid (HB.out.gr g9 (by omega));have WO9:=WS;replace WS:=hid (Nat.le_trans WS.out g9.size);replace HS:=hid s9;obtain ⟨u0,u1,u2,u3,u4,u5,uz⟩:=HB.out;have BF:=hid (HB.out.sets (.string r.1.op) (.string r.1.name) (.int .i64 (r.1.kind:Nat)) (.int .i64 r.1.n) (.int .i64 (r.1.pl:Nat)) (.slice sa9 sm9 sc9));have SF:=hid (HS.out.put6 (q:=w.heap.size) (by omega) (by omega) (.string r.1.op) (.string r.1.name) (.int .i64 (r.1.kind:Nat)) (.int .i64 r.1.n) (.int .i64 (r.1.pl:Nat)) (.slice sa9 sm9 sc9));have GF:=hid (HG.out.put6 (q:=w.heap.size) (by omega) (.string r.1.op) (.string r.1.name) (.int .i64 (r.1.kind:Nat)) (.int .i64 r.1.n) (.int .i64 (r.1.pl:Nat)) (.slice sa9 sm9 sc9));have NF:=hid (Nd.put6x (q:=w.heap.size) (m:=w.heap.size) NV9.out (Nat.lt_of_lt_of_le wn WO9.out) (Nat.le_of_lt (Nat.lt_of_lt_of_le wn WO9.out)) (.string r.1.op) (.string r.1.name) (.int .i64 (r.1.kind:Nat)) (.int .i64 r.1.n) (.int .i64 (r.1.pl:Nat)) (.slice sa9 sm9 sc9));clear h9 g9 s9 nv9 PC)
 generalize World.setCell _ ⟨w.heap.size,5,none⟩ _=wf at *
 obtain ⟨q0,q1,q2,q3,q4,q5,_⟩:=BF.out
 exact bodyPost_ret (v:=.agg #[.string r.1.op,.string r.1.name,.int .i64 (r.1.kind:Nat),.int .i64 r.1.n,.int .i64 (r.1.pl:Nat),.slice sa9 sm9 sc9]) (by simp [results,Tryd.results81,go_sem,q0,q1,q2,q3,q4,q5]) rfl ⟨GF.out,SF.out,_,rfl,_,rfl,NF.out⟩
set_option maxRecDepth 100000 in
set_option maxHeartbeats 4000000 in
theorem rprim_min {w:World} {p b c:Nat} {ws:List Wo} {d:Nat} {s:Sp} (h:Sw w p b c ws d s) (E:Ax) (hE:∀ w s,Sw w p b c ws d s→Calls Tryd.prog 45 #[.pointer (some ⟨p,0,none⟩)] w fun e w'=>Rn w w' p b c ws d e (E s)) (y0:s.islit=false) (y1:s.is ⟨#[109,105,110]⟩=true) (ra rc:Tr × Sp) (ha:E (s.nx.want ⟨#[40]⟩)=ra) (hc:E (ra.2.want ⟨#[44]⟩)=rc) :
  Calls Tryd.prog 81 #[.pointer (some ⟨p,0,none⟩)] w fun e w'=>Rn w w' p b c ws d e (two ⟨#[109,105,110]⟩ (aw s.l) ra.1 rc.1,rc.2.want ⟨#[41]⟩):=by
 have pl0:=h.pl
 have bl0:=h.bl
 have HB:=hid (B6.new w 31 (.string ⟨#[]⟩) (.string ⟨#[]⟩) (.int .i64 0) (.int .i64 0) (.int .i64 0) (.slice none 0 0))
 have HS0:Hid (Below w.heap.size w (w.alloc (.cells #[.string ⟨#[]⟩,.string ⟨#[]⟩,.int .i64 0,.int .i64 0,.int .i64 0,.slice none 0 0] 31))):=(Below.refl _ _).alloc (Nat.le_refl _) _
 have HS:=hid (h.next HS0.out)
 have HG:=hid ((Gr.refl w p).below HS0.out)
 have WS:=hid (show w.heap.size<(w.alloc (.cells #[.string ⟨#[]⟩,.string ⟨#[]⟩,.int .i64 0,.int .i64 0,.int .i64 0,.slice none 0 0] 31)).heap.size from by simp)
 have f0:=fd0
 have f1:=fd1
 have f3:=fd3
 have EH:=hid hE
 clear hE
 have Y0:=hid y0
 have Y1:=hid y1
 have HA:=hid ha
 have HC:=hid hc
 clear h y0 y1 ha hc
 go_enter Tryd.func81,Tryd.ntmps81
 go_upto_region 1 with fail
 generalize World.alloc w _=w1 at *
 obtain ⟨n0,hn0⟩:∃ n,n=w1.heap.size:=⟨_,rfl⟩
 have wn:w.heap.size<n0:=by rw [hn0];exact WS.out
 have pn:p<n0:=by omega
 have bn:b<n0:=by omega
 replace WS:=hid (Nat.le_of_eq hn0)
 clear hn0 HS0
 have WC:=hid (rw_any HS.out)
 go_upto_region 2 with (go_at_call 40;with_reducible refine Calls.mono WC.out ?_;rintro e w2 ⟨rfl,b2⟩;replace HS:=hid (HS.out.next b2);replace HG:=hid (HG.out.below b2);replace HB:=hid (HB.out.next b2);replace WS:=hid (Nat.le_trans WS.out b2.size);clear b2 WC)
 have IC:=hid (rislit_any HS.out)
 rw [Y0.out] at IC
 go_upto_region 4 with (go_at_call 61;with_reducible refine Calls.mono IC.out ?_;rintro e w3 ⟨rfl,b3⟩;replace HS:=hid (HS.out.next b3);replace HG:=hid (HG.out.below b3);replace HB:=hid (HB.out.next b3);replace WS:=hid (Nat.le_trans WS.out b3.size);clear b3 IC)
 go_wp2_with fail
 refine wp_loop_rounds 3 ?_
 rw [rounds_succ]
 go_upto_region 8 with fail
 have AL:=hid (show Below w3.heap.size w3 (w3.alloc (.cells #[.string ⟨#[109,105,110]⟩,.string ⟨#[109,97,120]⟩] 9)) from (Below.refl _ _).alloc (Nat.le_refl _) _)
 replace HS:=hid (HS.out.next AL.out)
 replace HG:=hid (HG.out.below AL.out)
 replace HB:=hid (HB.out.next AL.out)
 replace WS:=hid (Nat.le_trans WS.out AL.out.size)
 clear AL
 generalize World.alloc w3 _=v4 at *
 have TK:=hid (rtake_any HS.out ⟨#[109,105,110]⟩)
 rw [tk_yes Y1.out,Y1.out] at TK
 go_upto_region 9 with (go_at_call 41;with_reducible refine Calls.mono TK.out ?_;rintro e w4 ⟨rfl,h4,g4⟩;replace HS:=hid h4;replace HG:=hid (HG.out.trans g4);replace HB:=hid (HB.out.gr g4 (by omega));replace WS:=hid (Nat.le_trans WS.out g4.size);clear h4 g4 TK)
 have WT:=hid (rwant_any HS.out ⟨#[40]⟩)
 go_upto_region 10 with (go_at_call 44;with_reducible refine Calls.mono WT.out ?_;rintro e w5 ⟨rfl,h5,g5⟩;replace HS:=hid h5;replace HG:=hid (HG.out.trans g5);replace HB:=hid (HB.out.gr g5 (by omega));replace WS:=hid (Nat.le_trans WS.out g5.size);clear h5 g5 WT)
 have EC:=hid (EH.out _ _ HS.out)
 rw [HA.out] at EC
 go_upto_region 11 with (go_at_call 45;with_reducible refine Calls.mono EC.out ?_;rintro e w6 h6;obtain ⟨g6,s6,sa6,sm6,sc6,rfl,nv6⟩:=h6.parts;have NV6:=hid nv6;replace HG:=hid (HG.out.trans g6);replace HB:=hid (HB.out.gr g6 (by omega));have WO6:=WS;replace WS:=hid (Nat.le_trans WS.out g6.size);replace HS:=hid s6;clear h6 g6 s6 nv6 EC)
 have BA:=hid (Bx.new (m:=n0) NV6.out WO6.out WS.out 31)
 have AL6:=hid (show Below w6.heap.size w6 (w6.alloc (.cells #[.string ra.1.op,.string ra.1.name,.int .i64 (ra.1.kind:Nat),.int .i64 ra.1.n,.int .i64 (ra.1.pl:Nat),.slice sa6 sm6 sc6] 31)) from (Below.refl _ _).alloc (Nat.le_refl _) _)
 replace HS:=hid (HS.out.next AL6.out)
 replace HG:=hid (HG.out.below AL6.out)
 replace HB:=hid (HB.out.next AL6.out)
 replace WS:=hid (Nat.le_trans WS.out AL6.out.size)
 have ge6:n0≤w6.heap.size:=BA.out.l
 clear AL6 NV6 WO6
 generalize World.alloc w6 _=y6 at *
 generalize w6.heap.size=bBA at *
 obtain ⟨BA0,BA1,BA2,BA3,BA4,BA5,_⟩:=BA.out.b
 have WT:=hid (rwant_any HS.out ⟨#[44]⟩)
 go_upto_region 12 with (go_at_call 44;with_reducible refine Calls.mono WT.out ?_;rintro e w7 ⟨rfl,h7,g7⟩;replace HS:=hid h7;replace HG:=hid (HG.out.trans g7);replace HB:=hid (HB.out.gr g7 (by omega));replace WS:=hid (Nat.le_trans WS.out g7.size);replace BA:=hid (BA.out.gr g7 pn);clear h7 g7 WT)
 have EC:=hid (EH.out _ _ HS.out)
 rw [HC.out] at EC
 go_upto_region 13 with (go_at_call 45;with_reducible refine Calls.mono EC.out ?_;rintro e w8 h8;obtain ⟨g8,s8,sa8,sm8,sc8,rfl,nv8⟩:=h8.parts;have NV8:=hid nv8;replace HG:=hid (HG.out.trans g8);replace HB:=hid (HB.out.gr g8 (by omega));have WO8:=WS;replace WS:=hid (Nat.le_trans WS.out g8.size);replace HS:=hid s8;replace BA:=hid (BA.out.gr g8 pn);clear h8 g8 s8 nv8 EC)
 have BC:=hid (Bx.new (m:=n0) NV8.out WO8.out WS.out 31)
 have AL8:=hid (show Below w8.heap.size w8 (w8.alloc (.cells #[.string rc.1.op,.string rc.1.name,.int .i64 (rc.1.kind:Nat),.int .i64 rc.1.n,.int .i64 (rc.1.pl:Nat),.slice sa8 sm8 sc8] 31)) from (Below.refl _ _).alloc (Nat.le_refl _) _)
 replace HS:=hid (HS.out.next AL8.out)
 replace HG:=hid (HG.out.below AL8.out)
 replace HB:=hid (HB.out.next AL8.out)
 replace WS:=hid (Nat.le_trans WS.out AL8.out.size)
 replace BA:=hid (BA.out.next AL8.out)
 have ge8:n0≤w8.heap.size:=BC.out.l
 clear AL8 NV8 WO8
 generalize World.alloc w8 _=y8 at *
 generalize w8.heap.size=bBC at *
 obtain ⟨BC0,BC1,BC2,BC3,BC4,BC5,_⟩:=BC.out.b
 have WT:=hid (rwant_any HS.out ⟨#[41]⟩)
 go_upto_region 14 with (go_at_call 44;with_reducible refine Calls.mono WT.out ?_;rintro e w9 ⟨rfl,h9,g9⟩;replace HS:=hid h9;replace HG:=hid (HG.out.trans g9);replace HB:=hid (HB.out.gr g9 (by omega));replace WS:=hid (Nat.le_trans WS.out g9.size);replace BA:=hid (BA.out.gr g9 pn);replace BC:=hid (BC.out.gr g9 pn);clear h9 g9 WT)
 obtain ⟨u0,u1,u2,u3,u4,u5,uz⟩:=HB.out
 clear BA0 BA1 BA2 BA3 BA4 BA5
 obtain ⟨BA0,BA1,BA2,BA3,BA4,BA5,_⟩:=BA.out.b
 clear BC0 BC1 BC2 BC3 BC4 BC5
 obtain ⟨BC0,BC1,BC2,BC3,BC4,BC5,_⟩:=BC.out.b
 have HS7:=hid (show Below w9.heap.size w9 (w9.alloc (.cells #[.string ra.1.op,.string ra.1.name,.int .i64 (ra.1.kind:Nat),.int .i64 ra.1.n,.int .i64 (ra.1.pl:Nat),.slice sa6 sm6 sc6,.string rc.1.op,.string rc.1.name,.int .i64 (rc.1.kind:Nat),.int .i64 rc.1.n,.int .i64 (rc.1.pl:Nat),.slice sa8 sm8 sc8] 31)) from (Below.refl _ _).alloc (Nat.le_refl _) _)
 have ys:n0≤w9.heap.size:=WS.out
 have CBA:=hid (show NC (w9.alloc (.cells #[.string ra.1.op,.string ra.1.name,.int .i64 (ra.1.kind:Nat),.int .i64 ra.1.n,.int .i64 (ra.1.pl:Nat),.slice sa6 sm6 sc6,.string rc.1.op,.string rc.1.name,.int .i64 (rc.1.kind:Nat),.int .i64 rc.1.n,.int .i64 (rc.1.pl:Nat),.slice sa8 sm8 sc8] 31)) w9.heap.size 0 ra.1 (.slice sa6 sm6 sc6) from ⟨by simp,by simp,by simp,by simp,by simp,by simp⟩)
 have CBC:=hid (show NC (w9.alloc (.cells #[.string ra.1.op,.string ra.1.name,.int .i64 (ra.1.kind:Nat),.int .i64 ra.1.n,.int .i64 (ra.1.pl:Nat),.slice sa6 sm6 sc6,.string rc.1.op,.string rc.1.name,.int .i64 (rc.1.kind:Nat),.int .i64 rc.1.n,.int .i64 (rc.1.pl:Nat),.slice sa8 sm8 sc8] 31)) w9.heap.size 6 rc.1 (.slice sa8 sm8 sc8) from ⟨by simp,by simp,by simp,by simp,by simp,by simp⟩)
 have NN7:=hid (nd_two2 (c:=2) (S:=fun g=>n0≤g) ys CBA.out CBC.out (BA.out.d.next HS7.out) (BC.out.d.next HS7.out))
 replace HB:=hid (HB.out.next HS7.out)
 replace HS:=hid (HS.out.next HS7.out)
 replace HG:=hid (HG.out.below HS7.out)
 clear u0 u1 u2 u3 u4 u5 uz HS7 CBA CBC
 obtain ⟨u0,u1,u2,u3,u4,u5,uz⟩:=HB.out
 have BF:=hid (HB.out.sets (.string ⟨#[109,105,110]⟩) (.string ⟨#[]⟩) (.int .i64 0) (.int .i64 0) (.int .i64 (aw s.l:Nat)) (.slice (some ⟨w9.heap.size,0,none⟩) 2 2))
 have SF:=hid (HS.out.put6 (q:=w.heap.size) (by omega) (by omega) (.string ⟨#[109,105,110]⟩) (.string ⟨#[]⟩) (.int .i64 0) (.int .i64 0) (.int .i64 (aw s.l:Nat)) (.slice (some ⟨w9.heap.size,0,none⟩) 2 2))
 have GF:=hid (HG.out.put6 (q:=w.heap.size) (by omega) (.string ⟨#[109,105,110]⟩) (.string ⟨#[]⟩) (.int .i64 0) (.int .i64 0) (.int .i64 (aw s.l:Nat)) (.slice (some ⟨w9.heap.size,0,none⟩) 2 2))
 have NF:=hid (Nd.put6x (q:=w.heap.size) (m:=w.heap.size) NN7.out wn (by omega) (.string ⟨#[109,105,110]⟩) (.string ⟨#[]⟩) (.int .i64 0) (.int .i64 0) (.int .i64 (aw s.l:Nat)) (.slice (some ⟨w9.heap.size,0,none⟩) 2 2))
 go_wp2_with fail
 generalize World.setCell _ ⟨w.heap.size,5,none⟩ _=wf at *
 obtain ⟨q0,q1,q2,q3,q4,q5,_⟩:=BF.out
 exact bodyPost_ret (v:=.agg #[.string ⟨#[109,105,110]⟩,.string ⟨#[]⟩,.int .i64 0,.int .i64 0,.int .i64 (aw s.l:Nat),.slice (some ⟨w9.heap.size,0,none⟩) 2 2]) (by simp [results,Tryd.results81,go_sem,q0,q1,q2,q3,q4,q5]) rfl ⟨GF.out,SF.out,_,rfl,_,rfl,NF.out⟩
set_option maxRecDepth 100000 in
set_option maxHeartbeats 4000000 in
theorem rprim_max {w:World} {p b c:Nat} {ws:List Wo} {d:Nat} {s:Sp} (h:Sw w p b c ws d s) (E:Ax) (hE:∀ w s,Sw w p b c ws d s→Calls Tryd.prog 45 #[.pointer (some ⟨p,0,none⟩)] w fun e w'=>Rn w w' p b c ws d e (E s)) (y0:s.islit=false) (y1:s.is ⟨#[109,105,110]⟩=false) (y2:s.is ⟨#[109,97,120]⟩=true) (ra rc:Tr × Sp) (ha:E (s.nx.want ⟨#[40]⟩)=ra) (hc:E (ra.2.want ⟨#[44]⟩)=rc) :
  Calls Tryd.prog 81 #[.pointer (some ⟨p,0,none⟩)] w fun e w'=>Rn w w' p b c ws d e (two ⟨#[109,97,120]⟩ (aw s.l) ra.1 rc.1,rc.2.want ⟨#[41]⟩):=by
 have pl0:=h.pl
 have bl0:=h.bl
 have HB:=hid (B6.new w 31 (.string ⟨#[]⟩) (.string ⟨#[]⟩) (.int .i64 0) (.int .i64 0) (.int .i64 0) (.slice none 0 0))
 have HS0:Hid (Below w.heap.size w (w.alloc (.cells #[.string ⟨#[]⟩,.string ⟨#[]⟩,.int .i64 0,.int .i64 0,.int .i64 0,.slice none 0 0] 31))):=(Below.refl _ _).alloc (Nat.le_refl _) _
 have HS:=hid (h.next HS0.out)
 have HG:=hid ((Gr.refl w p).below HS0.out)
 have WS:=hid (show w.heap.size<(w.alloc (.cells #[.string ⟨#[]⟩,.string ⟨#[]⟩,.int .i64 0,.int .i64 0,.int .i64 0,.slice none 0 0] 31)).heap.size from by simp)
 have f0:=fd0
 have f1:=fd1
 have f3:=fd3
 have EH:=hid hE
 clear hE
 have Y0:=hid y0
 have Y1:=hid y1
 have Y2:=hid y2
 have HA:=hid ha
 have HC:=hid hc
 clear h y0 y1 y2 ha hc
 go_enter Tryd.func81,Tryd.ntmps81
 go_upto_region 1 with fail
 generalize World.alloc w _=w1 at *
 obtain ⟨n0,hn0⟩:∃ n,n=w1.heap.size:=⟨_,rfl⟩
 have wn:w.heap.size<n0:=by rw [hn0];exact WS.out
 have pn:p<n0:=by omega
 have bn:b<n0:=by omega
 replace WS:=hid (Nat.le_of_eq hn0)
 clear hn0 HS0
 have WC:=hid (rw_any HS.out)
 go_upto_region 2 with (go_at_call 40;with_reducible refine Calls.mono WC.out ?_;rintro e w2 ⟨rfl,b2⟩;replace HS:=hid (HS.out.next b2);replace HG:=hid (HG.out.below b2);replace HB:=hid (HB.out.next b2);replace WS:=hid (Nat.le_trans WS.out b2.size);clear b2 WC)
 have IC:=hid (rislit_any HS.out)
 rw [Y0.out] at IC
 go_upto_region 4 with (go_at_call 61;with_reducible refine Calls.mono IC.out ?_;rintro e w3 ⟨rfl,b3⟩;replace HS:=hid (HS.out.next b3);replace HG:=hid (HG.out.below b3);replace HB:=hid (HB.out.next b3);replace WS:=hid (Nat.le_trans WS.out b3.size);clear b3 IC)
 go_wp2_with fail
 refine wp_loop_rounds 3 ?_
 rw [rounds_succ]
 go_upto_region 8 with fail
 have AL:=hid (show Below w3.heap.size w3 (w3.alloc (.cells #[.string ⟨#[109,105,110]⟩,.string ⟨#[109,97,120]⟩] 9)) from (Below.refl _ _).alloc (Nat.le_refl _) _)
 replace HS:=hid (HS.out.next AL.out)
 replace HG:=hid (HG.out.below AL.out)
 replace HB:=hid (HB.out.next AL.out)
 replace WS:=hid (Nat.le_trans WS.out AL.out.size)
 clear AL
 generalize World.alloc w3 _=v4 at *
 have TK:=hid (rtake_any HS.out ⟨#[109,105,110]⟩)
 rw [tk_no Y1.out,Y1.out] at TK
 go_wp2_with (go_at_call 41;with_reducible refine Calls.mono TK.out ?_;rintro e w4 ⟨rfl,h4,g4⟩;replace HS:=hid h4;replace HG:=hid (HG.out.trans g4);replace HB:=hid (HB.out.gr g4 (by omega));replace WS:=hid (Nat.le_trans WS.out g4.size);clear h4 g4 TK)
 rw [rounds_succ]
 go_upto_region 8 with fail
 have AL:=hid (show Below w4.heap.size w4 (w4.alloc (.cells #[.string ⟨#[109,105,110]⟩,.string ⟨#[109,97,120]⟩] 9)) from (Below.refl _ _).alloc (Nat.le_refl _) _)
 replace HS:=hid (HS.out.next AL.out)
 replace HG:=hid (HG.out.below AL.out)
 replace HB:=hid (HB.out.next AL.out)
 replace WS:=hid (Nat.le_trans WS.out AL.out.size)
 clear AL
 generalize World.alloc w4 _=v5 at *
 have TK:=hid (rtake_any HS.out ⟨#[109,97,120]⟩)
 rw [tk_yes Y2.out,Y2.out] at TK
 go_upto_region 9 with (go_at_call 41;with_reducible refine Calls.mono TK.out ?_;rintro e w5 ⟨rfl,h5,g5⟩;replace HS:=hid h5;replace HG:=hid (HG.out.trans g5);replace HB:=hid (HB.out.gr g5 (by omega));replace WS:=hid (Nat.le_trans WS.out g5.size);clear h5 g5 TK)
 have WT:=hid (rwant_any HS.out ⟨#[40]⟩)
 go_upto_region 10 with (go_at_call 44;with_reducible refine Calls.mono WT.out ?_;rintro e w6 ⟨rfl,h6,g6⟩;replace HS:=hid h6;replace HG:=hid (HG.out.trans g6);replace HB:=hid (HB.out.gr g6 (by omega));replace WS:=hid (Nat.le_trans WS.out g6.size);clear h6 g6 WT)
 have EC:=hid (EH.out _ _ HS.out)
 rw [HA.out] at EC
 go_upto_region 11 with (go_at_call 45;with_reducible refine Calls.mono EC.out ?_;rintro e w7 h7;obtain ⟨g7,s7,sa7,sm7,sc7,rfl,nv7⟩:=h7.parts;have NV7:=hid nv7;replace HG:=hid (HG.out.trans g7);replace HB:=hid (HB.out.gr g7 (by omega));have WO7:=WS;replace WS:=hid (Nat.le_trans WS.out g7.size);replace HS:=hid s7;clear h7 g7 s7 nv7 EC)
 have BA:=hid (Bx.new (m:=n0) NV7.out WO7.out WS.out 31)
 have AL7:=hid (show Below w7.heap.size w7 (w7.alloc (.cells #[.string ra.1.op,.string ra.1.name,.int .i64 (ra.1.kind:Nat),.int .i64 ra.1.n,.int .i64 (ra.1.pl:Nat),.slice sa7 sm7 sc7] 31)) from (Below.refl _ _).alloc (Nat.le_refl _) _)
 replace HS:=hid (HS.out.next AL7.out)
 replace HG:=hid (HG.out.below AL7.out)
 replace HB:=hid (HB.out.next AL7.out)
 replace WS:=hid (Nat.le_trans WS.out AL7.out.size)
 have ge7:n0≤w7.heap.size:=BA.out.l
 clear AL7 NV7 WO7
 generalize World.alloc w7 _=y7 at *
 generalize w7.heap.size=bBA at *
 obtain ⟨BA0,BA1,BA2,BA3,BA4,BA5,_⟩:=BA.out.b
 have WT:=hid (rwant_any HS.out ⟨#[44]⟩)
 go_upto_region 12 with (go_at_call 44;with_reducible refine Calls.mono WT.out ?_;rintro e w8 ⟨rfl,h8,g8⟩;replace HS:=hid h8;replace HG:=hid (HG.out.trans g8);replace HB:=hid (HB.out.gr g8 (by omega));replace WS:=hid (Nat.le_trans WS.out g8.size);replace BA:=hid (BA.out.gr g8 pn);clear h8 g8 WT)
 have EC:=hid (EH.out _ _ HS.out)
 rw [HC.out] at EC
 go_upto_region 13 with (go_at_call 45;with_reducible refine Calls.mono EC.out ?_;rintro e w9 h9;obtain ⟨g9,s9,sa9,sm9,sc9,rfl,nv9⟩:=h9.parts;have NV9:=hid nv9;replace HG:=hid (HG.out.trans g9);replace HB:=hid (HB.out.gr g9 (by omega));have WO9:=WS;replace WS:=hid (Nat.le_trans WS.out g9.size);replace HS:=hid s9;replace BA:=hid (BA.out.gr g9 pn);clear h9 g9 s9 nv9 EC)
 have BC:=hid (Bx.new (m:=n0) NV9.out WO9.out WS.out 31)
 have AL9:=hid (show Below w9.heap.size w9 (w9.alloc (.cells #[.string rc.1.op,.string rc.1.name,.int .i64 (rc.1.kind:Nat),.int .i64 rc.1.n,.int .i64 (rc.1.pl:Nat),.slice sa9 sm9 sc9] 31)) from (Below.refl _ _).alloc (Nat.le_refl _) _)
 replace HS:=hid (HS.out.next AL9.out)
 replace HG:=hid (HG.out.below AL9.out)
 replace HB:=hid (HB.out.next AL9.out)
 replace WS:=hid (Nat.le_trans WS.out AL9.out.size)
 replace BA:=hid (BA.out.next AL9.out)
 have ge9:n0≤w9.heap.size:=BC.out.l
 clear AL9 NV9 WO9
 generalize World.alloc w9 _=y9 at *
 generalize w9.heap.size=bBC at *
 obtain ⟨BC0,BC1,BC2,BC3,BC4,BC5,_⟩:=BC.out.b
 have WT:=hid (rwant_any HS.out ⟨#[41]⟩)
 go_upto_region 14 with (go_at_call 44;with_reducible refine Calls.mono WT.out ?_;rintro e w10 ⟨rfl,h10,g10⟩;replace HS:=hid h10;replace HG:=hid (HG.out.trans g10);replace HB:=hid (HB.out.gr g10 (by omega));replace WS:=hid (Nat.le_trans WS.out g10.size);replace BA:=hid (BA.out.gr g10 pn);replace BC:=hid (BC.out.gr g10 pn);clear h10 g10 WT)
 obtain ⟨u0,u1,u2,u3,u4,u5,uz⟩:=HB.out
 clear BA0 BA1 BA2 BA3 BA4 BA5
 obtain ⟨BA0,BA1,BA2,BA3,BA4,BA5,_⟩:=BA.out.b
 clear BC0 BC1 BC2 BC3 BC4 BC5
 obtain ⟨BC0,BC1,BC2,BC3,BC4,BC5,_⟩:=BC.out.b
 have HS7:=hid (show Below w10.heap.size w10 (w10.alloc (.cells #[.string ra.1.op,.string ra.1.name,.int .i64 (ra.1.kind:Nat),.int .i64 ra.1.n,.int .i64 (ra.1.pl:Nat),.slice sa7 sm7 sc7,.string rc.1.op,.string rc.1.name,.int .i64 (rc.1.kind:Nat),.int .i64 rc.1.n,.int .i64 (rc.1.pl:Nat),.slice sa9 sm9 sc9] 31)) from (Below.refl _ _).alloc (Nat.le_refl _) _)
 have ys:n0≤w10.heap.size:=WS.out
 have CBA:=hid (show NC (w10.alloc (.cells #[.string ra.1.op,.string ra.1.name,.int .i64 (ra.1.kind:Nat),.int .i64 ra.1.n,.int .i64 (ra.1.pl:Nat),.slice sa7 sm7 sc7,.string rc.1.op,.string rc.1.name,.int .i64 (rc.1.kind:Nat),.int .i64 rc.1.n,.int .i64 (rc.1.pl:Nat),.slice sa9 sm9 sc9] 31)) w10.heap.size 0 ra.1 (.slice sa7 sm7 sc7) from ⟨by simp,by simp,by simp,by simp,by simp,by simp⟩)
 have CBC:=hid (show NC (w10.alloc (.cells #[.string ra.1.op,.string ra.1.name,.int .i64 (ra.1.kind:Nat),.int .i64 ra.1.n,.int .i64 (ra.1.pl:Nat),.slice sa7 sm7 sc7,.string rc.1.op,.string rc.1.name,.int .i64 (rc.1.kind:Nat),.int .i64 rc.1.n,.int .i64 (rc.1.pl:Nat),.slice sa9 sm9 sc9] 31)) w10.heap.size 6 rc.1 (.slice sa9 sm9 sc9) from ⟨by simp,by simp,by simp,by simp,by simp,by simp⟩)
 have NN7:=hid (nd_two2 (c:=2) (S:=fun g=>n0≤g) ys CBA.out CBC.out (BA.out.d.next HS7.out) (BC.out.d.next HS7.out))
 replace HB:=hid (HB.out.next HS7.out)
 replace HS:=hid (HS.out.next HS7.out)
 replace HG:=hid (HG.out.below HS7.out)
 clear u0 u1 u2 u3 u4 u5 uz HS7 CBA CBC
 obtain ⟨u0,u1,u2,u3,u4,u5,uz⟩:=HB.out
 have BF:=hid (HB.out.sets (.string ⟨#[109,97,120]⟩) (.string ⟨#[]⟩) (.int .i64 0) (.int .i64 0) (.int .i64 (aw s.l:Nat)) (.slice (some ⟨w10.heap.size,0,none⟩) 2 2))
 have SF:=hid (HS.out.put6 (q:=w.heap.size) (by omega) (by omega) (.string ⟨#[109,97,120]⟩) (.string ⟨#[]⟩) (.int .i64 0) (.int .i64 0) (.int .i64 (aw s.l:Nat)) (.slice (some ⟨w10.heap.size,0,none⟩) 2 2))
 have GF:=hid (HG.out.put6 (q:=w.heap.size) (by omega) (.string ⟨#[109,97,120]⟩) (.string ⟨#[]⟩) (.int .i64 0) (.int .i64 0) (.int .i64 (aw s.l:Nat)) (.slice (some ⟨w10.heap.size,0,none⟩) 2 2))
 have NF:=hid (Nd.put6x (q:=w.heap.size) (m:=w.heap.size) NN7.out wn (by omega) (.string ⟨#[109,97,120]⟩) (.string ⟨#[]⟩) (.int .i64 0) (.int .i64 0) (.int .i64 (aw s.l:Nat)) (.slice (some ⟨w10.heap.size,0,none⟩) 2 2))
 go_wp2_with fail
 generalize World.setCell _ ⟨w.heap.size,5,none⟩ _=wf at *
 obtain ⟨q0,q1,q2,q3,q4,q5,_⟩:=BF.out
 exact bodyPost_ret (v:=.agg #[.string ⟨#[109,97,120]⟩,.string ⟨#[]⟩,.int .i64 0,.int .i64 0,.int .i64 (aw s.l:Nat),.slice (some ⟨w10.heap.size,0,none⟩) 2 2]) (by simp [results,Tryd.results81,go_sem,q0,q1,q2,q3,q4,q5]) rfl ⟨GF.out,SF.out,_,rfl,_,rfl,NF.out⟩
set_option maxRecDepth 100000 in
set_option maxHeartbeats 4000000 in
theorem rprim_open {w:World} {p b c:Nat} {ws:List Wo} {d:Nat} {s:Sp} (h:Sw w p b c ws d s) (E:Ax) (hE:∀ w s,Sw w p b c ws d s→Calls Tryd.prog 45 #[.pointer (some ⟨p,0,none⟩)] w fun e w'=>Rn w w' p b c ws d e (E s)) (y0:s.islit=false) (y1:s.is ⟨#[109,105,110]⟩=false) (y2:s.is ⟨#[109,97,120]⟩=false) (y3:s.is ⟨#[40]⟩=true) (ra:Tr × Sp) (ha:E s.nx=ra) :
  Calls Tryd.prog 81 #[.pointer (some ⟨p,0,none⟩)] w fun e w'=>Rn w w' p b c ws d e (ra.1,ra.2.want ⟨#[41]⟩):=by
 have pl0:=h.pl
 have bl0:=h.bl
 have HB:=hid (B6.new w 31 (.string ⟨#[]⟩) (.string ⟨#[]⟩) (.int .i64 0) (.int .i64 0) (.int .i64 0) (.slice none 0 0))
 have HS0:Hid (Below w.heap.size w (w.alloc (.cells #[.string ⟨#[]⟩,.string ⟨#[]⟩,.int .i64 0,.int .i64 0,.int .i64 0,.slice none 0 0] 31))):=(Below.refl _ _).alloc (Nat.le_refl _) _
 have HS:=hid (h.next HS0.out)
 have HG:=hid ((Gr.refl w p).below HS0.out)
 have WS:=hid (show w.heap.size<(w.alloc (.cells #[.string ⟨#[]⟩,.string ⟨#[]⟩,.int .i64 0,.int .i64 0,.int .i64 0,.slice none 0 0] 31)).heap.size from by simp)
 have f0:=fd0
 have f1:=fd1
 have f3:=fd3
 have EH:=hid hE
 clear hE
 have Y0:=hid y0
 have Y1:=hid y1
 have Y2:=hid y2
 have Y3:=hid y3
 have HA:=hid ha
 clear h y0 y1 y2 y3 ha
 go_enter Tryd.func81,Tryd.ntmps81
 go_upto_region 1 with fail
 generalize World.alloc w _=w1 at *
 obtain ⟨n0,hn0⟩:∃ n,n=w1.heap.size:=⟨_,rfl⟩
 have wn:w.heap.size<n0:=by rw [hn0];exact WS.out
 have pn:p<n0:=by omega
 have bn:b<n0:=by omega
 replace WS:=hid (Nat.le_of_eq hn0)
 clear hn0 HS0
 have WC:=hid (rw_any HS.out)
 go_upto_region 2 with (go_at_call 40;with_reducible refine Calls.mono WC.out ?_;rintro e w2 ⟨rfl,b2⟩;replace HS:=hid (HS.out.next b2);replace HG:=hid (HG.out.below b2);replace HB:=hid (HB.out.next b2);replace WS:=hid (Nat.le_trans WS.out b2.size);clear b2 WC)
 have IC:=hid (rislit_any HS.out)
 rw [Y0.out] at IC
 go_upto_region 4 with (go_at_call 61;with_reducible refine Calls.mono IC.out ?_;rintro e w3 ⟨rfl,b3⟩;replace HS:=hid (HS.out.next b3);replace HG:=hid (HG.out.below b3);replace HB:=hid (HB.out.next b3);replace WS:=hid (Nat.le_trans WS.out b3.size);clear b3 IC)
 go_wp2_with fail
 refine wp_loop_rounds 3 ?_
 rw [rounds_succ]
 go_upto_region 8 with fail
 have AL:=hid (show Below w3.heap.size w3 (w3.alloc (.cells #[.string ⟨#[109,105,110]⟩,.string ⟨#[109,97,120]⟩] 9)) from (Below.refl _ _).alloc (Nat.le_refl _) _)
 replace HS:=hid (HS.out.next AL.out)
 replace HG:=hid (HG.out.below AL.out)
 replace HB:=hid (HB.out.next AL.out)
 replace WS:=hid (Nat.le_trans WS.out AL.out.size)
 clear AL
 generalize World.alloc w3 _=v4 at *
 have TK:=hid (rtake_any HS.out ⟨#[109,105,110]⟩)
 rw [tk_no Y1.out,Y1.out] at TK
 go_wp2_with (go_at_call 41;with_reducible refine Calls.mono TK.out ?_;rintro e w4 ⟨rfl,h4,g4⟩;replace HS:=hid h4;replace HG:=hid (HG.out.trans g4);replace HB:=hid (HB.out.gr g4 (by omega));replace WS:=hid (Nat.le_trans WS.out g4.size);clear h4 g4 TK)
 rw [rounds_succ]
 go_upto_region 8 with fail
 have AL:=hid (show Below w4.heap.size w4 (w4.alloc (.cells #[.string ⟨#[109,105,110]⟩,.string ⟨#[109,97,120]⟩] 9)) from (Below.refl _ _).alloc (Nat.le_refl _) _)
 replace HS:=hid (HS.out.next AL.out)
 replace HG:=hid (HG.out.below AL.out)
 replace HB:=hid (HB.out.next AL.out)
 replace WS:=hid (Nat.le_trans WS.out AL.out.size)
 clear AL
 generalize World.alloc w4 _=v5 at *
 have TK:=hid (rtake_any HS.out ⟨#[109,97,120]⟩)
 rw [tk_no Y2.out,Y2.out] at TK
 go_wp2_with (go_at_call 41;with_reducible refine Calls.mono TK.out ?_;rintro e w5 ⟨rfl,h5,g5⟩;replace HS:=hid h5;replace HG:=hid (HG.out.trans g5);replace HB:=hid (HB.out.gr g5 (by omega));replace WS:=hid (Nat.le_trans WS.out g5.size);clear h5 g5 TK)
 rw [rounds_succ]
 go_upto_region 15 with fail
 have TK:=hid (rtake_any HS.out ⟨#[40]⟩)
 rw [tk_yes Y3.out,Y3.out] at TK
 go_upto_region 16 with (go_at_call 41;with_reducible refine Calls.mono TK.out ?_;rintro e w6 ⟨rfl,h6,g6⟩;replace HS:=hid h6;replace HG:=hid (HG.out.trans g6);replace HB:=hid (HB.out.gr g6 (by omega));replace WS:=hid (Nat.le_trans WS.out g6.size);clear h6 g6 TK)
 have EC:=hid (EH.out _ _ HS.out)
 rw [HA.out] at EC
 go_upto_region 17 with (go_at_call 45;with_reducible refine Calls.mono EC.out ?_;rintro e w7 h7;obtain ⟨g7,s7,sa7,sm7,sc7,rfl,nv7⟩:=h7.parts;have NV7:=hid nv7;replace HG:=hid (HG.out.trans g7);replace HB:=hid (HB.out.gr g7 (by omega));have WO7:=WS;replace WS:=hid (Nat.le_trans WS.out g7.size);replace HS:=hid s7;clear h7 g7 s7 nv7 EC)
 have BA:=hid (Bx.new (m:=n0) NV7.out WO7.out WS.out 31)
 have AL7:=hid (show Below w7.heap.size w7 (w7.alloc (.cells #[.string ra.1.op,.string ra.1.name,.int .i64 (ra.1.kind:Nat),.int .i64 ra.1.n,.int .i64 (ra.1.pl:Nat),.slice sa7 sm7 sc7] 31)) from (Below.refl _ _).alloc (Nat.le_refl _) _)
 replace HS:=hid (HS.out.next AL7.out)
 replace HG:=hid (HG.out.below AL7.out)
 replace HB:=hid (HB.out.next AL7.out)
 replace WS:=hid (Nat.le_trans WS.out AL7.out.size)
 have ge7:n0≤w7.heap.size:=BA.out.l
 clear AL7 NV7 WO7
 generalize World.alloc w7 _=y7 at *
 generalize w7.heap.size=bBA at *
 obtain ⟨BA0,BA1,BA2,BA3,BA4,BA5,_⟩:=BA.out.b
 have WT:=hid (rwant_any HS.out ⟨#[41]⟩)
 go_upto_region 18 with (go_at_call 44;with_reducible refine Calls.mono WT.out ?_;rintro e w8 ⟨rfl,h8,g8⟩;replace HS:=hid h8;replace HG:=hid (HG.out.trans g8);replace HB:=hid (HB.out.gr g8 (by omega));replace WS:=hid (Nat.le_trans WS.out g8.size);replace BA:=hid (BA.out.gr g8 pn);clear h8 g8 WT)
 obtain ⟨u0,u1,u2,u3,u4,u5,uz⟩:=HB.out
 clear BA0 BA1 BA2 BA3 BA4 BA5
 obtain ⟨BA0,BA1,BA2,BA3,BA4,BA5,_⟩:=BA.out.b
 have BF:=hid (HB.out.sets (.string ra.1.op) (.string ra.1.name) (.int .i64 (ra.1.kind:Nat)) (.int .i64 ra.1.n) (.int .i64 (ra.1.pl:Nat)) (.slice sa7 sm7 sc7))
 have SF:=hid (HS.out.put6 (q:=w.heap.size) (by omega) (by omega) (.string ra.1.op) (.string ra.1.name) (.int .i64 (ra.1.kind:Nat)) (.int .i64 ra.1.n) (.int .i64 (ra.1.pl:Nat)) (.slice sa7 sm7 sc7))
 have GF:=hid (HG.out.put6 (q:=w.heap.size) (by omega) (.string ra.1.op) (.string ra.1.name) (.int .i64 (ra.1.kind:Nat)) (.int .i64 ra.1.n) (.int .i64 (ra.1.pl:Nat)) (.slice sa7 sm7 sc7))
 have NF:=hid (Nd.put6x (q:=w.heap.size) (m:=w.heap.size) BA.out.d wn (by omega) (.string ra.1.op) (.string ra.1.name) (.int .i64 (ra.1.kind:Nat)) (.int .i64 ra.1.n) (.int .i64 (ra.1.pl:Nat)) (.slice sa7 sm7 sc7))
 go_wp2
 generalize World.setCell _ ⟨w.heap.size,5,none⟩ _=wf at *
 obtain ⟨q0,q1,q2,q3,q4,q5,_⟩:=BF.out
 exact bodyPost_ret (v:=.agg #[.string ra.1.op,.string ra.1.name,.int .i64 (ra.1.kind:Nat),.int .i64 ra.1.n,.int .i64 (ra.1.pl:Nat),.slice sa7 sm7 sc7]) (by simp [results,Tryd.results81,go_sem,q0,q1,q2,q3,q4,q5]) rfl ⟨GF.out,SF.out,_,rfl,_,rfl,NF.out⟩
set_option maxRecDepth 100000 in
set_option maxHeartbeats 4000000 in
theorem rprim_len {w:World} {p b c:Nat} {ws:List Wo} {d:Nat} {s:Sp} (h:Sw w p b c ws d s) (E:Ax) (hE:∀ w s,Sw w p b c ws d s→Calls Tryd.prog 45 #[.pointer (some ⟨p,0,none⟩)] w fun e w'=>Rn w w' p b c ws d e (E s)) (y0:s.islit=false) (y1:s.is ⟨#[109,105,110]⟩=false) (y2:s.is ⟨#[109,97,120]⟩=false) (y3:s.is ⟨#[40]⟩=false) (y4:s.is ⟨#[108,101,110]⟩=true) (ra:Tr × Sp) (ha:E (s.nx.want ⟨#[40]⟩)=ra) :
  Calls Tryd.prog 81 #[.pointer (some ⟨p,0,none⟩)] w fun e w'=>Rn w w' p b c ws d e (one ⟨#[108,101,110]⟩ ⟨#[]⟩ (aw s.l) ra.1,ra.2.want ⟨#[41]⟩):=by
 have pl0:=h.pl
 have bl0:=h.bl
 have HB:=hid (B6.new w 31 (.string ⟨#[]⟩) (.string ⟨#[]⟩) (.int .i64 0) (.int .i64 0) (.int .i64 0) (.slice none 0 0))
 have HS0:Hid (Below w.heap.size w (w.alloc (.cells #[.string ⟨#[]⟩,.string ⟨#[]⟩,.int .i64 0,.int .i64 0,.int .i64 0,.slice none 0 0] 31))):=(Below.refl _ _).alloc (Nat.le_refl _) _
 have HS:=hid (h.next HS0.out)
 have HG:=hid ((Gr.refl w p).below HS0.out)
 have WS:=hid (show w.heap.size<(w.alloc (.cells #[.string ⟨#[]⟩,.string ⟨#[]⟩,.int .i64 0,.int .i64 0,.int .i64 0,.slice none 0 0] 31)).heap.size from by simp)
 have f0:=fd0
 have f1:=fd1
 have f3:=fd3
 have EH:=hid hE
 clear hE
 have Y0:=hid y0
 have Y1:=hid y1
 have Y2:=hid y2
 have Y3:=hid y3
 have Y4:=hid y4
 have HA:=hid ha
 clear h y0 y1 y2 y3 y4 ha
 go_enter Tryd.func81,Tryd.ntmps81
 go_upto_region 1 with fail
 generalize World.alloc w _=w1 at *
 obtain ⟨n0,hn0⟩:∃ n,n=w1.heap.size:=⟨_,rfl⟩
 have wn:w.heap.size<n0:=by rw [hn0];exact WS.out
 have pn:p<n0:=by omega
 have bn:b<n0:=by omega
 replace WS:=hid (Nat.le_of_eq hn0)
 clear hn0 HS0
 have WC:=hid (rw_any HS.out)
 go_upto_region 2 with (go_at_call 40;with_reducible refine Calls.mono WC.out ?_;rintro e w2 ⟨rfl,b2⟩;replace HS:=hid (HS.out.next b2);replace HG:=hid (HG.out.below b2);replace HB:=hid (HB.out.next b2);replace WS:=hid (Nat.le_trans WS.out b2.size);clear b2 WC)
 have IC:=hid (rislit_any HS.out)
 rw [Y0.out] at IC
 go_upto_region 4 with (go_at_call 61;with_reducible refine Calls.mono IC.out ?_;rintro e w3 ⟨rfl,b3⟩;replace HS:=hid (HS.out.next b3);replace HG:=hid (HG.out.below b3);replace HB:=hid (HB.out.next b3);replace WS:=hid (Nat.le_trans WS.out b3.size);clear b3 IC)
 go_wp2_with fail
 refine wp_loop_rounds 3 ?_
 rw [rounds_succ]
 go_upto_region 8 with fail
 have AL:=hid (show Below w3.heap.size w3 (w3.alloc (.cells #[.string ⟨#[109,105,110]⟩,.string ⟨#[109,97,120]⟩] 9)) from (Below.refl _ _).alloc (Nat.le_refl _) _)
 replace HS:=hid (HS.out.next AL.out)
 replace HG:=hid (HG.out.below AL.out)
 replace HB:=hid (HB.out.next AL.out)
 replace WS:=hid (Nat.le_trans WS.out AL.out.size)
 clear AL
 generalize World.alloc w3 _=v4 at *
 have TK:=hid (rtake_any HS.out ⟨#[109,105,110]⟩)
 rw [tk_no Y1.out,Y1.out] at TK
 go_wp2_with (go_at_call 41;with_reducible refine Calls.mono TK.out ?_;rintro e w4 ⟨rfl,h4,g4⟩;replace HS:=hid h4;replace HG:=hid (HG.out.trans g4);replace HB:=hid (HB.out.gr g4 (by omega));replace WS:=hid (Nat.le_trans WS.out g4.size);clear h4 g4 TK)
 rw [rounds_succ]
 go_upto_region 8 with fail
 have AL:=hid (show Below w4.heap.size w4 (w4.alloc (.cells #[.string ⟨#[109,105,110]⟩,.string ⟨#[109,97,120]⟩] 9)) from (Below.refl _ _).alloc (Nat.le_refl _) _)
 replace HS:=hid (HS.out.next AL.out)
 replace HG:=hid (HG.out.below AL.out)
 replace HB:=hid (HB.out.next AL.out)
 replace WS:=hid (Nat.le_trans WS.out AL.out.size)
 clear AL
 generalize World.alloc w4 _=v5 at *
 have TK:=hid (rtake_any HS.out ⟨#[109,97,120]⟩)
 rw [tk_no Y2.out,Y2.out] at TK
 go_wp2_with (go_at_call 41;with_reducible refine Calls.mono TK.out ?_;rintro e w5 ⟨rfl,h5,g5⟩;replace HS:=hid h5;replace HG:=hid (HG.out.trans g5);replace HB:=hid (HB.out.gr g5 (by omega));replace WS:=hid (Nat.le_trans WS.out g5.size);clear h5 g5 TK)
 rw [rounds_succ]
 go_upto_region 15 with fail
 have TK:=hid (rtake_any HS.out ⟨#[40]⟩)
 rw [tk_no Y3.out,Y3.out] at TK
 go_upto_region 19 with (go_at_call 41;with_reducible refine Calls.mono TK.out ?_;rintro e w6 ⟨rfl,h6,g6⟩;replace HS:=hid h6;replace HG:=hid (HG.out.trans g6);replace HB:=hid (HB.out.gr g6 (by omega));replace WS:=hid (Nat.le_trans WS.out g6.size);clear h6 g6 TK)
 have TK:=hid (rtake_any HS.out ⟨#[108,101,110]⟩)
 rw [tk_yes Y4.out,Y4.out] at TK
 go_upto_region 20 with (go_at_call 41;with_reducible refine Calls.mono TK.out ?_;rintro e w7 ⟨rfl,h7,g7⟩;replace HS:=hid h7;replace HG:=hid (HG.out.trans g7);replace HB:=hid (HB.out.gr g7 (by omega));replace WS:=hid (Nat.le_trans WS.out g7.size);clear h7 g7 TK)
 have WT:=hid (rwant_any HS.out ⟨#[40]⟩)
 go_upto_region 21 with (go_at_call 44;with_reducible refine Calls.mono WT.out ?_;rintro e w8 ⟨rfl,h8,g8⟩;replace HS:=hid h8;replace HG:=hid (HG.out.trans g8);replace HB:=hid (HB.out.gr g8 (by omega));replace WS:=hid (Nat.le_trans WS.out g8.size);clear h8 g8 WT)
 have EC:=hid (EH.out _ _ HS.out)
 rw [HA.out] at EC
 go_upto_region 22 with (go_at_call 45;with_reducible refine Calls.mono EC.out ?_;rintro e w9 h9;obtain ⟨g9,s9,sa9,sm9,sc9,rfl,nv9⟩:=h9.parts;have NV9:=hid nv9;replace HG:=hid (HG.out.trans g9);replace HB:=hid (HB.out.gr g9 (by omega));have WO9:=WS;replace WS:=hid (Nat.le_trans WS.out g9.size);replace HS:=hid s9;clear h9 g9 s9 nv9 EC)
 have BA:=hid (Bx.new (m:=n0) NV9.out WO9.out WS.out 31)
 have AL9:=hid (show Below w9.heap.size w9 (w9.alloc (.cells #[.string ra.1.op,.string ra.1.name,.int .i64 (ra.1.kind:Nat),.int .i64 ra.1.n,.int .i64 (ra.1.pl:Nat),.slice sa9 sm9 sc9] 31)) from (Below.refl _ _).alloc (Nat.le_refl _) _)
 replace HS:=hid (HS.out.next AL9.out)
 replace HG:=hid (HG.out.below AL9.out)
 replace HB:=hid (HB.out.next AL9.out)
 replace WS:=hid (Nat.le_trans WS.out AL9.out.size)
 have ge9:n0≤w9.heap.size:=BA.out.l
 clear AL9 NV9 WO9
 generalize World.alloc w9 _=y9 at *
 generalize w9.heap.size=bBA at *
 obtain ⟨BA0,BA1,BA2,BA3,BA4,BA5,_⟩:=BA.out.b
 have WT:=hid (rwant_any HS.out ⟨#[41]⟩)
 go_upto_region 23 with (go_at_call 44;with_reducible refine Calls.mono WT.out ?_;rintro e w10 ⟨rfl,h10,g10⟩;replace HS:=hid h10;replace HG:=hid (HG.out.trans g10);replace HB:=hid (HB.out.gr g10 (by omega));replace WS:=hid (Nat.le_trans WS.out g10.size);replace BA:=hid (BA.out.gr g10 pn);clear h10 g10 WT)
 obtain ⟨u0,u1,u2,u3,u4,u5,uz⟩:=HB.out
 clear BA0 BA1 BA2 BA3 BA4 BA5
 obtain ⟨BA0,BA1,BA2,BA3,BA4,BA5,_⟩:=BA.out.b
 have HS7:=hid (show Below w10.heap.size w10 (w10.alloc (.cells #[.string ra.1.op,.string ra.1.name,.int .i64 (ra.1.kind:Nat),.int .i64 ra.1.n,.int .i64 (ra.1.pl:Nat),.slice sa9 sm9 sc9] 31)) from (Below.refl _ _).alloc (Nat.le_refl _) _)
 have ys:n0≤w10.heap.size:=WS.out
 have CBA:=hid (show NC (w10.alloc (.cells #[.string ra.1.op,.string ra.1.name,.int .i64 (ra.1.kind:Nat),.int .i64 ra.1.n,.int .i64 (ra.1.pl:Nat),.slice sa9 sm9 sc9] 31)) w10.heap.size 0 ra.1 (.slice sa9 sm9 sc9) from ⟨by simp,by simp,by simp,by simp,by simp,by simp⟩)
 have NN7:=hid (nd_one1 (c:=1) (S:=fun g=>n0≤g) ys CBA.out (BA.out.d.next HS7.out))
 replace HB:=hid (HB.out.next HS7.out)
 replace HS:=hid (HS.out.next HS7.out)
 replace HG:=hid (HG.out.below HS7.out)
 clear u0 u1 u2 u3 u4 u5 uz HS7 CBA
 obtain ⟨u0,u1,u2,u3,u4,u5,uz⟩:=HB.out
 have BF:=hid (HB.out.sets (.string ⟨#[108,101,110]⟩) (.string ⟨#[]⟩) (.int .i64 0) (.int .i64 0) (.int .i64 (aw s.l:Nat)) (.slice (some ⟨w10.heap.size,0,none⟩) 1 1))
 have SF:=hid (HS.out.put6 (q:=w.heap.size) (by omega) (by omega) (.string ⟨#[108,101,110]⟩) (.string ⟨#[]⟩) (.int .i64 0) (.int .i64 0) (.int .i64 (aw s.l:Nat)) (.slice (some ⟨w10.heap.size,0,none⟩) 1 1))
 have GF:=hid (HG.out.put6 (q:=w.heap.size) (by omega) (.string ⟨#[108,101,110]⟩) (.string ⟨#[]⟩) (.int .i64 0) (.int .i64 0) (.int .i64 (aw s.l:Nat)) (.slice (some ⟨w10.heap.size,0,none⟩) 1 1))
 have NF:=hid (Nd.put6x (q:=w.heap.size) (m:=w.heap.size) NN7.out wn (by omega) (.string ⟨#[108,101,110]⟩) (.string ⟨#[]⟩) (.int .i64 0) (.int .i64 0) (.int .i64 (aw s.l:Nat)) (.slice (some ⟨w10.heap.size,0,none⟩) 1 1))
 go_wp2_with fail
 generalize World.setCell _ ⟨w.heap.size,5,none⟩ _=wf at *
 obtain ⟨q0,q1,q2,q3,q4,q5,_⟩:=BF.out
 exact bodyPost_ret (v:=.agg #[.string ⟨#[108,101,110]⟩,.string ⟨#[]⟩,.int .i64 0,.int .i64 0,.int .i64 (aw s.l:Nat),.slice (some ⟨w10.heap.size,0,none⟩) 1 1]) (by simp [results,Tryd.results81,go_sem,q0,q1,q2,q3,q4,q5]) rfl ⟨GF.out,SF.out,_,rfl,_,rfl,NF.out⟩
set_option maxRecDepth 100000 in
set_option maxHeartbeats 4000000 in
theorem rprim_at {w:World} {p b c:Nat} {ws:List Wo} {d:Nat} {s:Sp} (h:Sw w p b c ws d s) (E:Ax) (hE:∀ w s,Sw w p b c ws d s→Calls Tryd.prog 45 #[.pointer (some ⟨p,0,none⟩)] w fun e w'=>Rn w w' p b c ws d e (E s)) (y0:s.islit=false) (y1:s.is ⟨#[109,105,110]⟩=false) (y2:s.is ⟨#[109,97,120]⟩=false) (y3:s.is ⟨#[40]⟩=false) (y4:s.is ⟨#[108,101,110]⟩=false) (y5:s.is ⟨#[97,116]⟩=true) (rn:ByteArray × Sp) (ra:Tr × Sp) (hn:(s.nx.want ⟨#[40]⟩).nm=rn) (ha:E (rn.2.want ⟨#[44]⟩)=ra) :
  Calls Tryd.prog 81 #[.pointer (some ⟨p,0,none⟩)] w fun e w'=>Rn w w' p b c ws d e (one ⟨#[97,116]⟩ rn.1 (aw s.l) ra.1,ra.2.want ⟨#[41]⟩):=by
 have pl0:=h.pl
 have bl0:=h.bl
 have HB:=hid (B6.new w 31 (.string ⟨#[]⟩) (.string ⟨#[]⟩) (.int .i64 0) (.int .i64 0) (.int .i64 0) (.slice none 0 0))
 have HS0:Hid (Below w.heap.size w (w.alloc (.cells #[.string ⟨#[]⟩,.string ⟨#[]⟩,.int .i64 0,.int .i64 0,.int .i64 0,.slice none 0 0] 31))):=(Below.refl _ _).alloc (Nat.le_refl _) _
 have HS:=hid (h.next HS0.out)
 have HG:=hid ((Gr.refl w p).below HS0.out)
 have WS:=hid (show w.heap.size<(w.alloc (.cells #[.string ⟨#[]⟩,.string ⟨#[]⟩,.int .i64 0,.int .i64 0,.int .i64 0,.slice none 0 0] 31)).heap.size from by simp)
 have f0:=fd0
 have f1:=fd1
 have f3:=fd3
 have EH:=hid hE
 clear hE
 have Y0:=hid y0
 have Y1:=hid y1
 have Y2:=hid y2
 have Y3:=hid y3
 have Y4:=hid y4
 have Y5:=hid y5
 have HN:=hid hn
 have HA:=hid ha
 clear h y0 y1 y2 y3 y4 y5 hn ha
 go_enter Tryd.func81,Tryd.ntmps81
 go_upto_region 1 with fail
 generalize World.alloc w _=w1 at *
 obtain ⟨n0,hn0⟩:∃ n,n=w1.heap.size:=⟨_,rfl⟩
 have wn:w.heap.size<n0:=by rw [hn0];exact WS.out
 have pn:p<n0:=by omega
 have bn:b<n0:=by omega
 replace WS:=hid (Nat.le_of_eq hn0)
 clear hn0 HS0
 have WC:=hid (rw_any HS.out)
 go_upto_region 2 with (go_at_call 40;with_reducible refine Calls.mono WC.out ?_;rintro e w2 ⟨rfl,b2⟩;replace HS:=hid (HS.out.next b2);replace HG:=hid (HG.out.below b2);replace HB:=hid (HB.out.next b2);replace WS:=hid (Nat.le_trans WS.out b2.size);clear b2 WC)
 have IC:=hid (rislit_any HS.out)
 rw [Y0.out] at IC
 go_upto_region 4 with (go_at_call 61;with_reducible refine Calls.mono IC.out ?_;rintro e w3 ⟨rfl,b3⟩;replace HS:=hid (HS.out.next b3);replace HG:=hid (HG.out.below b3);replace HB:=hid (HB.out.next b3);replace WS:=hid (Nat.le_trans WS.out b3.size);clear b3 IC)
 go_wp2_with fail
 refine wp_loop_rounds 3 ?_
 rw [rounds_succ]
 go_upto_region 8 with fail
 have AL:=hid (show Below w3.heap.size w3 (w3.alloc (.cells #[.string ⟨#[109,105,110]⟩,.string ⟨#[109,97,120]⟩] 9)) from (Below.refl _ _).alloc (Nat.le_refl _) _)
 replace HS:=hid (HS.out.next AL.out)
 replace HG:=hid (HG.out.below AL.out)
 replace HB:=hid (HB.out.next AL.out)
 replace WS:=hid (Nat.le_trans WS.out AL.out.size)
 clear AL
 generalize World.alloc w3 _=v4 at *
 have TK:=hid (rtake_any HS.out ⟨#[109,105,110]⟩)
 rw [tk_no Y1.out,Y1.out] at TK
 go_wp2_with (go_at_call 41;with_reducible refine Calls.mono TK.out ?_;rintro e w4 ⟨rfl,h4,g4⟩;replace HS:=hid h4;replace HG:=hid (HG.out.trans g4);replace HB:=hid (HB.out.gr g4 (by omega));replace WS:=hid (Nat.le_trans WS.out g4.size);clear h4 g4 TK)
 rw [rounds_succ]
 go_upto_region 8 with fail
 have AL:=hid (show Below w4.heap.size w4 (w4.alloc (.cells #[.string ⟨#[109,105,110]⟩,.string ⟨#[109,97,120]⟩] 9)) from (Below.refl _ _).alloc (Nat.le_refl _) _)
 replace HS:=hid (HS.out.next AL.out)
 replace HG:=hid (HG.out.below AL.out)
 replace HB:=hid (HB.out.next AL.out)
 replace WS:=hid (Nat.le_trans WS.out AL.out.size)
 clear AL
 generalize World.alloc w4 _=v5 at *
 have TK:=hid (rtake_any HS.out ⟨#[109,97,120]⟩)
 rw [tk_no Y2.out,Y2.out] at TK
 go_wp2_with (go_at_call 41;with_reducible refine Calls.mono TK.out ?_;rintro e w5 ⟨rfl,h5,g5⟩;replace HS:=hid h5;replace HG:=hid (HG.out.trans g5);replace HB:=hid (HB.out.gr g5 (by omega));replace WS:=hid (Nat.le_trans WS.out g5.size);clear h5 g5 TK)
 rw [rounds_succ]
 go_upto_region 15 with fail
 have TK:=hid (rtake_any HS.out ⟨#[40]⟩)
 rw [tk_no Y3.out,Y3.out] at TK
 go_upto_region 19 with (go_at_call 41;with_reducible refine Calls.mono TK.out ?_;rintro e w6 ⟨rfl,h6,g6⟩;replace HS:=hid h6;replace HG:=hid (HG.out.trans g6);replace HB:=hid (HB.out.gr g6 (by omega));replace WS:=hid (Nat.le_trans WS.out g6.size);clear h6 g6 TK)
 have TK:=hid (rtake_any HS.out ⟨#[108,101,110]⟩)
 rw [tk_no Y4.out,Y4.out] at TK
 go_upto_region 24 with (go_at_call 41;with_reducible refine Calls.mono TK.out ?_;rintro e w7 ⟨rfl,h7,g7⟩;replace HS:=hid h7;replace HG:=hid (HG.out.trans g7);replace HB:=hid (HB.out.gr g7 (by omega));replace WS:=hid (Nat.le_trans WS.out g7.size);clear h7 g7 TK)
 have TK:=hid (rtake_any HS.out ⟨#[97,116]⟩)
 rw [tk_yes Y5.out,Y5.out] at TK
 go_upto_region 25 with (go_at_call 41;with_reducible refine Calls.mono TK.out ?_;rintro e w8 ⟨rfl,h8,g8⟩;replace HS:=hid h8;replace HG:=hid (HG.out.trans g8);replace HB:=hid (HB.out.gr g8 (by omega));replace WS:=hid (Nat.le_trans WS.out g8.size);clear h8 g8 TK)
 have WT:=hid (rwant_any HS.out ⟨#[40]⟩)
 go_upto_region 26 with (go_at_call 44;with_reducible refine Calls.mono WT.out ?_;rintro e w9 ⟨rfl,h9,g9⟩;replace HS:=hid h9;replace HG:=hid (HG.out.trans g9);replace HB:=hid (HB.out.gr g9 (by omega));replace WS:=hid (Nat.le_trans WS.out g9.size);clear h9 g9 WT)
 have NC:=hid (rname_any HS.out)
 rw [HN.out] at NC
 go_upto_region 27 with (go_at_call 42;with_reducible refine Calls.mono NC.out ?_;rintro e w10 ⟨rfl,h10,g10⟩;replace HS:=hid h10;replace HG:=hid (HG.out.trans g10);replace HB:=hid (HB.out.gr g10 (by omega));replace WS:=hid (Nat.le_trans WS.out g10.size);clear h10 g10 NC)
 have WT:=hid (rwant_any HS.out ⟨#[44]⟩)
 go_upto_region 28 with (go_at_call 44;with_reducible refine Calls.mono WT.out ?_;rintro e w11 ⟨rfl,h11,g11⟩;replace HS:=hid h11;replace HG:=hid (HG.out.trans g11);replace HB:=hid (HB.out.gr g11 (by omega));replace WS:=hid (Nat.le_trans WS.out g11.size);clear h11 g11 WT)
 have EC:=hid (EH.out _ _ HS.out)
 rw [HA.out] at EC
 go_upto_region 29 with (go_at_call 45;with_reducible refine Calls.mono EC.out ?_;rintro e w12 h12;obtain ⟨g12,s12,sa12,sm12,sc12,rfl,nv12⟩:=h12.parts;have NV12:=hid nv12;replace HG:=hid (HG.out.trans g12);replace HB:=hid (HB.out.gr g12 (by omega));have WO12:=WS;replace WS:=hid (Nat.le_trans WS.out g12.size);replace HS:=hid s12;clear h12 g12 s12 nv12 EC)
 have BA:=hid (Bx.new (m:=n0) NV12.out WO12.out WS.out 31)
 have AL12:=hid (show Below w12.heap.size w12 (w12.alloc (.cells #[.string ra.1.op,.string ra.1.name,.int .i64 (ra.1.kind:Nat),.int .i64 ra.1.n,.int .i64 (ra.1.pl:Nat),.slice sa12 sm12 sc12] 31)) from (Below.refl _ _).alloc (Nat.le_refl _) _)
 replace HS:=hid (HS.out.next AL12.out)
 replace HG:=hid (HG.out.below AL12.out)
 replace HB:=hid (HB.out.next AL12.out)
 replace WS:=hid (Nat.le_trans WS.out AL12.out.size)
 have ge12:n0≤w12.heap.size:=BA.out.l
 clear AL12 NV12 WO12
 generalize World.alloc w12 _=y12 at *
 generalize w12.heap.size=bBA at *
 obtain ⟨BA0,BA1,BA2,BA3,BA4,BA5,_⟩:=BA.out.b
 have WT:=hid (rwant_any HS.out ⟨#[41]⟩)
 go_upto_region 30 with (go_at_call 44;with_reducible refine Calls.mono WT.out ?_;rintro e w13 ⟨rfl,h13,g13⟩;replace HS:=hid h13;replace HG:=hid (HG.out.trans g13);replace HB:=hid (HB.out.gr g13 (by omega));replace WS:=hid (Nat.le_trans WS.out g13.size);replace BA:=hid (BA.out.gr g13 pn);clear h13 g13 WT)
 obtain ⟨u0,u1,u2,u3,u4,u5,uz⟩:=HB.out
 clear BA0 BA1 BA2 BA3 BA4 BA5
 obtain ⟨BA0,BA1,BA2,BA3,BA4,BA5,_⟩:=BA.out.b
 have HS7:=hid (show Below w13.heap.size w13 (w13.alloc (.cells #[.string ra.1.op,.string ra.1.name,.int .i64 (ra.1.kind:Nat),.int .i64 ra.1.n,.int .i64 (ra.1.pl:Nat),.slice sa12 sm12 sc12] 31)) from (Below.refl _ _).alloc (Nat.le_refl _) _)
 have ys:n0≤w13.heap.size:=WS.out
 have CBA:=hid (show NC (w13.alloc (.cells #[.string ra.1.op,.string ra.1.name,.int .i64 (ra.1.kind:Nat),.int .i64 ra.1.n,.int .i64 (ra.1.pl:Nat),.slice sa12 sm12 sc12] 31)) w13.heap.size 0 ra.1 (.slice sa12 sm12 sc12) from ⟨by simp,by simp,by simp,by simp,by simp,by simp⟩)
 have NN7:=hid (nd_one1 (c:=1) (S:=fun g=>n0≤g) ys CBA.out (BA.out.d.next HS7.out))
 replace HB:=hid (HB.out.next HS7.out)
 replace HS:=hid (HS.out.next HS7.out)
 replace HG:=hid (HG.out.below HS7.out)
 clear u0 u1 u2 u3 u4 u5 uz HS7 CBA
 obtain ⟨u0,u1,u2,u3,u4,u5,uz⟩:=HB.out
 have BF:=hid (HB.out.sets (.string ⟨#[97,116]⟩) (.string rn.1) (.int .i64 0) (.int .i64 0) (.int .i64 (aw s.l:Nat)) (.slice (some ⟨w13.heap.size,0,none⟩) 1 1))
 have SF:=hid (HS.out.put6 (q:=w.heap.size) (by omega) (by omega) (.string ⟨#[97,116]⟩) (.string rn.1) (.int .i64 0) (.int .i64 0) (.int .i64 (aw s.l:Nat)) (.slice (some ⟨w13.heap.size,0,none⟩) 1 1))
 have GF:=hid (HG.out.put6 (q:=w.heap.size) (by omega) (.string ⟨#[97,116]⟩) (.string rn.1) (.int .i64 0) (.int .i64 0) (.int .i64 (aw s.l:Nat)) (.slice (some ⟨w13.heap.size,0,none⟩) 1 1))
 have NF:=hid (Nd.put6x (q:=w.heap.size) (m:=w.heap.size) NN7.out wn (by omega) (.string ⟨#[97,116]⟩) (.string rn.1) (.int .i64 0) (.int .i64 0) (.int .i64 (aw s.l:Nat)) (.slice (some ⟨w13.heap.size,0,none⟩) 1 1))
 go_wp2_with fail
 generalize World.setCell _ ⟨w.heap.size,5,none⟩ _=wf at *
 obtain ⟨q0,q1,q2,q3,q4,q5,_⟩:=BF.out
 exact bodyPost_ret (v:=.agg #[.string ⟨#[97,116]⟩,.string rn.1,.int .i64 0,.int .i64 0,.int .i64 (aw s.l:Nat),.slice (some ⟨w13.heap.size,0,none⟩) 1 1]) (by simp [results,Tryd.results81,go_sem,q0,q1,q2,q3,q4,q5]) rfl ⟨GF.out,SF.out,_,rfl,_,rfl,NF.out⟩
set_option maxRecDepth 100000 in
set_option maxHeartbeats 4000000 in
theorem rprim_sum {w:World} {p b c:Nat} {ws:List Wo} {d:Nat} {s:Sp} (h:Sw w p b c ws d s) (E:Ax) (hE:∀ w s,Sw w p b c ws d s→Calls Tryd.prog 45 #[.pointer (some ⟨p,0,none⟩)] w fun e w'=>Rn w w' p b c ws d e (E s)) (y0:s.islit=false) (y1:s.is ⟨#[109,105,110]⟩=false) (y2:s.is ⟨#[109,97,120]⟩=false) (y3:s.is ⟨#[40]⟩=false) (y4:s.is ⟨#[108,101,110]⟩=false) (y5:s.is ⟨#[97,116]⟩=false) (y6:s.is ⟨#[115,117,109]⟩=true) (rn:ByteArray × Sp) (ra rc:Tr × Sp) (hn:(s.nx.want ⟨#[40]⟩).nm=rn) (ha:E (rn.2.want ⟨#[105,110]⟩)=ra) (hc:E (ra.2.want ⟨#[58]⟩)=rc) :
  Calls Tryd.prog 81 #[.pointer (some ⟨p,0,none⟩)] w fun e w'=>Rn w w' p b c ws d e (.nd ⟨#[115,117,109]⟩ rn.1 0 0 (aw s.l) [ra.1,rc.1],rc.2.want ⟨#[41]⟩):=by
 have pl0:=h.pl
 have bl0:=h.bl
 have HB:=hid (B6.new w 31 (.string ⟨#[]⟩) (.string ⟨#[]⟩) (.int .i64 0) (.int .i64 0) (.int .i64 0) (.slice none 0 0))
 have HS0:Hid (Below w.heap.size w (w.alloc (.cells #[.string ⟨#[]⟩,.string ⟨#[]⟩,.int .i64 0,.int .i64 0,.int .i64 0,.slice none 0 0] 31))):=(Below.refl _ _).alloc (Nat.le_refl _) _
 have HS:=hid (h.next HS0.out)
 have HG:=hid ((Gr.refl w p).below HS0.out)
 have WS:=hid (show w.heap.size<(w.alloc (.cells #[.string ⟨#[]⟩,.string ⟨#[]⟩,.int .i64 0,.int .i64 0,.int .i64 0,.slice none 0 0] 31)).heap.size from by simp)
 have f0:=fd0
 have f1:=fd1
 have f3:=fd3
 have EH:=hid hE
 clear hE
 have Y0:=hid y0
 have Y1:=hid y1
 have Y2:=hid y2
 have Y3:=hid y3
 have Y4:=hid y4
 have Y5:=hid y5
 have Y6:=hid y6
 have HN:=hid hn
 have HA:=hid ha
 have HC:=hid hc
 clear h y0 y1 y2 y3 y4 y5 y6 hn ha hc
 go_enter Tryd.func81,Tryd.ntmps81
 go_upto_region 1 with fail
 generalize World.alloc w _=w1 at *
 obtain ⟨n0,hn0⟩:∃ n,n=w1.heap.size:=⟨_,rfl⟩
 have wn:w.heap.size<n0:=by rw [hn0];exact WS.out
 have pn:p<n0:=by omega
 have bn:b<n0:=by omega
 replace WS:=hid (Nat.le_of_eq hn0)
 clear hn0 HS0
 have WC:=hid (rw_any HS.out)
 go_upto_region 2 with (go_at_call 40;with_reducible refine Calls.mono WC.out ?_;rintro e w2 ⟨rfl,b2⟩;replace HS:=hid (HS.out.next b2);replace HG:=hid (HG.out.below b2);replace HB:=hid (HB.out.next b2);replace WS:=hid (Nat.le_trans WS.out b2.size);clear b2 WC)
 have IC:=hid (rislit_any HS.out)
 rw [Y0.out] at IC
 go_upto_region 4 with (go_at_call 61;with_reducible refine Calls.mono IC.out ?_;rintro e w3 ⟨rfl,b3⟩;replace HS:=hid (HS.out.next b3);replace HG:=hid (HG.out.below b3);replace HB:=hid (HB.out.next b3);replace WS:=hid (Nat.le_trans WS.out b3.size);clear b3 IC)
 go_wp2_with fail
 refine wp_loop_rounds 3 ?_
 rw [rounds_succ]
 go_upto_region 8 with fail
 have AL:=hid (show Below w3.heap.size w3 (w3.alloc (.cells #[.string ⟨#[109,105,110]⟩,.string ⟨#[109,97,120]⟩] 9)) from (Below.refl _ _).alloc (Nat.le_refl _) _)
 replace HS:=hid (HS.out.next AL.out)
 replace HG:=hid (HG.out.below AL.out)
 replace HB:=hid (HB.out.next AL.out)
 replace WS:=hid (Nat.le_trans WS.out AL.out.size)
 clear AL
 generalize World.alloc w3 _=v4 at *
 have TK:=hid (rtake_any HS.out ⟨#[109,105,110]⟩)
 rw [tk_no Y1.out,Y1.out] at TK
 go_wp2_with (go_at_call 41;with_reducible refine Calls.mono TK.out ?_;rintro e w4 ⟨rfl,h4,g4⟩;replace HS:=hid h4;replace HG:=hid (HG.out.trans g4);replace HB:=hid (HB.out.gr g4 (by omega));replace WS:=hid (Nat.le_trans WS.out g4.size);clear h4 g4 TK)
 rw [rounds_succ]
 go_upto_region 8 with fail
 have AL:=hid (show Below w4.heap.size w4 (w4.alloc (.cells #[.string ⟨#[109,105,110]⟩,.string ⟨#[109,97,120]⟩] 9)) from (Below.refl _ _).alloc (Nat.le_refl _) _)
 replace HS:=hid (HS.out.next AL.out)
 replace HG:=hid (HG.out.below AL.out)
 replace HB:=hid (HB.out.next AL.out)
 replace WS:=hid (Nat.le_trans WS.out AL.out.size)
 clear AL
 generalize World.alloc w4 _=v5 at *
 have TK:=hid (rtake_any HS.out ⟨#[109,97,120]⟩)
 rw [tk_no Y2.out,Y2.out] at TK
 go_wp2_with (go_at_call 41;with_reducible refine Calls.mono TK.out ?_;rintro e w5 ⟨rfl,h5,g5⟩;replace HS:=hid h5;replace HG:=hid (HG.out.trans g5);replace HB:=hid (HB.out.gr g5 (by omega));replace WS:=hid (Nat.le_trans WS.out g5.size);clear h5 g5 TK)
 rw [rounds_succ]
 go_upto_region 15 with fail
 have TK:=hid (rtake_any HS.out ⟨#[40]⟩)
 rw [tk_no Y3.out,Y3.out] at TK
 go_upto_region 19 with (go_at_call 41;with_reducible refine Calls.mono TK.out ?_;rintro e w6 ⟨rfl,h6,g6⟩;replace HS:=hid h6;replace HG:=hid (HG.out.trans g6);replace HB:=hid (HB.out.gr g6 (by omega));replace WS:=hid (Nat.le_trans WS.out g6.size);clear h6 g6 TK)
 have TK:=hid (rtake_any HS.out ⟨#[108,101,110]⟩)
 rw [tk_no Y4.out,Y4.out] at TK
 go_upto_region 24 with (go_at_call 41;with_reducible refine Calls.mono TK.out ?_;rintro e w7 ⟨rfl,h7,g7⟩;replace HS:=hid h7;replace HG:=hid (HG.out.trans g7);replace HB:=hid (HB.out.gr g7 (by omega));replace WS:=hid (Nat.le_trans WS.out g7.size);clear h7 g7 TK)
 have TK:=hid (rtake_any HS.out ⟨#[97,116]⟩)
 rw [tk_no Y5.out,Y5.out] at TK
 go_upto_region 31 with (go_at_call 41;with_reducible refine Calls.mono TK.out ?_;rintro e w8 ⟨rfl,h8,g8⟩;replace HS:=hid h8;replace HG:=hid (HG.out.trans g8);replace HB:=hid (HB.out.gr g8 (by omega));replace WS:=hid (Nat.le_trans WS.out g8.size);clear h8 g8 TK)
 have TK:=hid (rtake_any HS.out ⟨#[115,117,109]⟩)
 rw [tk_yes Y6.out,Y6.out] at TK
 go_upto_region 32 with (go_at_call 41;with_reducible refine Calls.mono TK.out ?_;rintro e w9 ⟨rfl,h9,g9⟩;replace HS:=hid h9;replace HG:=hid (HG.out.trans g9);replace HB:=hid (HB.out.gr g9 (by omega));replace WS:=hid (Nat.le_trans WS.out g9.size);clear h9 g9 TK)
 have WT:=hid (rwant_any HS.out ⟨#[40]⟩)
 go_upto_region 33 with (go_at_call 44;with_reducible refine Calls.mono WT.out ?_;rintro e w10 ⟨rfl,h10,g10⟩;replace HS:=hid h10;replace HG:=hid (HG.out.trans g10);replace HB:=hid (HB.out.gr g10 (by omega));replace WS:=hid (Nat.le_trans WS.out g10.size);clear h10 g10 WT)
 have NC:=hid (rname_any HS.out)
 rw [HN.out] at NC
 go_upto_region 34 with (go_at_call 42;with_reducible refine Calls.mono NC.out ?_;rintro e w11 ⟨rfl,h11,g11⟩;replace HS:=hid h11;replace HG:=hid (HG.out.trans g11);replace HB:=hid (HB.out.gr g11 (by omega));replace WS:=hid (Nat.le_trans WS.out g11.size);clear h11 g11 NC)
 have WT:=hid (rwant_any HS.out ⟨#[105,110]⟩)
 go_upto_region 35 with (go_at_call 44;with_reducible refine Calls.mono WT.out ?_;rintro e w12 ⟨rfl,h12,g12⟩;replace HS:=hid h12;replace HG:=hid (HG.out.trans g12);replace HB:=hid (HB.out.gr g12 (by omega));replace WS:=hid (Nat.le_trans WS.out g12.size);clear h12 g12 WT)
 have EC:=hid (EH.out _ _ HS.out)
 rw [HA.out] at EC
 go_upto_region 36 with (go_at_call 45;with_reducible refine Calls.mono EC.out ?_;rintro e w13 h13;obtain ⟨g13,s13,sa13,sm13,sc13,rfl,nv13⟩:=h13.parts;have NV13:=hid nv13;replace HG:=hid (HG.out.trans g13);replace HB:=hid (HB.out.gr g13 (by omega));have WO13:=WS;replace WS:=hid (Nat.le_trans WS.out g13.size);replace HS:=hid s13;clear h13 g13 s13 nv13 EC)
 have BA:=hid (Bx.new (m:=n0) NV13.out WO13.out WS.out 31)
 have AL13:=hid (show Below w13.heap.size w13 (w13.alloc (.cells #[.string ra.1.op,.string ra.1.name,.int .i64 (ra.1.kind:Nat),.int .i64 ra.1.n,.int .i64 (ra.1.pl:Nat),.slice sa13 sm13 sc13] 31)) from (Below.refl _ _).alloc (Nat.le_refl _) _)
 replace HS:=hid (HS.out.next AL13.out)
 replace HG:=hid (HG.out.below AL13.out)
 replace HB:=hid (HB.out.next AL13.out)
 replace WS:=hid (Nat.le_trans WS.out AL13.out.size)
 have ge13:n0≤w13.heap.size:=BA.out.l
 clear AL13 NV13 WO13
 generalize World.alloc w13 _=y13 at *
 generalize w13.heap.size=bBA at *
 obtain ⟨BA0,BA1,BA2,BA3,BA4,BA5,_⟩:=BA.out.b
 have WT:=hid (rwant_any HS.out ⟨#[58]⟩)
 go_upto_region 37 with (go_at_call 44;with_reducible refine Calls.mono WT.out ?_;rintro e w14 ⟨rfl,h14,g14⟩;replace HS:=hid h14;replace HG:=hid (HG.out.trans g14);replace HB:=hid (HB.out.gr g14 (by omega));replace WS:=hid (Nat.le_trans WS.out g14.size);replace BA:=hid (BA.out.gr g14 pn);clear h14 g14 WT)
 have EC:=hid (EH.out _ _ HS.out)
 rw [HC.out] at EC
 go_upto_region 38 with (go_at_call 45;with_reducible refine Calls.mono EC.out ?_;rintro e w15 h15;obtain ⟨g15,s15,sa15,sm15,sc15,rfl,nv15⟩:=h15.parts;have NV15:=hid nv15;replace HG:=hid (HG.out.trans g15);replace HB:=hid (HB.out.gr g15 (by omega));have WO15:=WS;replace WS:=hid (Nat.le_trans WS.out g15.size);replace HS:=hid s15;replace BA:=hid (BA.out.gr g15 pn);clear h15 g15 s15 nv15 EC)
 have BC:=hid (Bx.new (m:=n0) NV15.out WO15.out WS.out 31)
 have AL15:=hid (show Below w15.heap.size w15 (w15.alloc (.cells #[.string rc.1.op,.string rc.1.name,.int .i64 (rc.1.kind:Nat),.int .i64 rc.1.n,.int .i64 (rc.1.pl:Nat),.slice sa15 sm15 sc15] 31)) from (Below.refl _ _).alloc (Nat.le_refl _) _)
 replace HS:=hid (HS.out.next AL15.out)
 replace HG:=hid (HG.out.below AL15.out)
 replace HB:=hid (HB.out.next AL15.out)
 replace WS:=hid (Nat.le_trans WS.out AL15.out.size)
 replace BA:=hid (BA.out.next AL15.out)
 have ge15:n0≤w15.heap.size:=BC.out.l
 clear AL15 NV15 WO15
 generalize World.alloc w15 _=y15 at *
 generalize w15.heap.size=bBC at *
 obtain ⟨BC0,BC1,BC2,BC3,BC4,BC5,_⟩:=BC.out.b
 have WT:=hid (rwant_any HS.out ⟨#[41]⟩)
 go_upto_region 39 with (go_at_call 44;with_reducible refine Calls.mono WT.out ?_;rintro e w16 ⟨rfl,h16,g16⟩;replace HS:=hid h16;replace HG:=hid (HG.out.trans g16);replace HB:=hid (HB.out.gr g16 (by omega));replace WS:=hid (Nat.le_trans WS.out g16.size);replace BA:=hid (BA.out.gr g16 pn);replace BC:=hid (BC.out.gr g16 pn);clear h16 g16 WT)
 obtain ⟨u0,u1,u2,u3,u4,u5,uz⟩:=HB.out
 clear BA0 BA1 BA2 BA3 BA4 BA5
 obtain ⟨BA0,BA1,BA2,BA3,BA4,BA5,_⟩:=BA.out.b
 clear BC0 BC1 BC2 BC3 BC4 BC5
 obtain ⟨BC0,BC1,BC2,BC3,BC4,BC5,_⟩:=BC.out.b
 have HS7:=hid (show Below w16.heap.size w16 (w16.alloc (.cells #[.string ra.1.op,.string ra.1.name,.int .i64 (ra.1.kind:Nat),.int .i64 ra.1.n,.int .i64 (ra.1.pl:Nat),.slice sa13 sm13 sc13,.string rc.1.op,.string rc.1.name,.int .i64 (rc.1.kind:Nat),.int .i64 rc.1.n,.int .i64 (rc.1.pl:Nat),.slice sa15 sm15 sc15] 31)) from (Below.refl _ _).alloc (Nat.le_refl _) _)
 have ys:n0≤w16.heap.size:=WS.out
 have CBA:=hid (show NC (w16.alloc (.cells #[.string ra.1.op,.string ra.1.name,.int .i64 (ra.1.kind:Nat),.int .i64 ra.1.n,.int .i64 (ra.1.pl:Nat),.slice sa13 sm13 sc13,.string rc.1.op,.string rc.1.name,.int .i64 (rc.1.kind:Nat),.int .i64 rc.1.n,.int .i64 (rc.1.pl:Nat),.slice sa15 sm15 sc15] 31)) w16.heap.size 0 ra.1 (.slice sa13 sm13 sc13) from ⟨by simp,by simp,by simp,by simp,by simp,by simp⟩)
 have CBC:=hid (show NC (w16.alloc (.cells #[.string ra.1.op,.string ra.1.name,.int .i64 (ra.1.kind:Nat),.int .i64 ra.1.n,.int .i64 (ra.1.pl:Nat),.slice sa13 sm13 sc13,.string rc.1.op,.string rc.1.name,.int .i64 (rc.1.kind:Nat),.int .i64 rc.1.n,.int .i64 (rc.1.pl:Nat),.slice sa15 sm15 sc15] 31)) w16.heap.size 6 rc.1 (.slice sa15 sm15 sc15) from ⟨by simp,by simp,by simp,by simp,by simp,by simp⟩)
 have NN7:=hid (nd_two2 (c:=2) (S:=fun g=>n0≤g) ys CBA.out CBC.out (BA.out.d.next HS7.out) (BC.out.d.next HS7.out))
 replace HB:=hid (HB.out.next HS7.out)
 replace HS:=hid (HS.out.next HS7.out)
 replace HG:=hid (HG.out.below HS7.out)
 clear u0 u1 u2 u3 u4 u5 uz HS7 CBA CBC
 obtain ⟨u0,u1,u2,u3,u4,u5,uz⟩:=HB.out
 have BF:=hid (HB.out.sets (.string ⟨#[115,117,109]⟩) (.string rn.1) (.int .i64 0) (.int .i64 0) (.int .i64 (aw s.l:Nat)) (.slice (some ⟨w16.heap.size,0,none⟩) 2 2))
 have SF:=hid (HS.out.put6 (q:=w.heap.size) (by omega) (by omega) (.string ⟨#[115,117,109]⟩) (.string rn.1) (.int .i64 0) (.int .i64 0) (.int .i64 (aw s.l:Nat)) (.slice (some ⟨w16.heap.size,0,none⟩) 2 2))
 have GF:=hid (HG.out.put6 (q:=w.heap.size) (by omega) (.string ⟨#[115,117,109]⟩) (.string rn.1) (.int .i64 0) (.int .i64 0) (.int .i64 (aw s.l:Nat)) (.slice (some ⟨w16.heap.size,0,none⟩) 2 2))
 have NF:=hid (Nd.put6x (q:=w.heap.size) (m:=w.heap.size) NN7.out wn (by omega) (.string ⟨#[115,117,109]⟩) (.string rn.1) (.int .i64 0) (.int .i64 0) (.int .i64 (aw s.l:Nat)) (.slice (some ⟨w16.heap.size,0,none⟩) 2 2))
 go_wp2_with fail
 generalize World.setCell _ ⟨w.heap.size,5,none⟩ _=wf at *
 obtain ⟨q0,q1,q2,q3,q4,q5,_⟩:=BF.out
 exact bodyPost_ret (v:=.agg #[.string ⟨#[115,117,109]⟩,.string rn.1,.int .i64 0,.int .i64 0,.int .i64 (aw s.l:Nat),.slice (some ⟨w16.heap.size,0,none⟩) 2 2]) (by simp [results,Tryd.results81,go_sem,q0,q1,q2,q3,q4,q5]) rfl ⟨GF.out,SF.out,_,rfl,_,rfl,NF.out⟩
set_option maxRecDepth 100000 in
set_option maxHeartbeats 4000000 in
theorem rprim_name {w:World} {p b c:Nat} {ws:List Wo} {d:Nat} {s:Sp} (h:Sw w p b c ws d s) (y0:s.islit=false) (y1:s.is ⟨#[109,105,110]⟩=false) (y2:s.is ⟨#[109,97,120]⟩=false) (y3:s.is ⟨#[40]⟩=false) (y4:s.is ⟨#[108,101,110]⟩=false) (y5:s.is ⟨#[97,116]⟩=false) (y6:s.is ⟨#[115,117,109]⟩=false) (rn:ByteArray × Sp) (hn:s.nm=rn) :
  Calls Tryd.prog 81 #[.pointer (some ⟨p,0,none⟩)] w fun e w'=>Rn w w' p b c ws d e (.nd ⟨#[110,97,109,101]⟩ rn.1 0 0 (aw s.l) [],rn.2):=by
 have pl0:=h.pl
 have bl0:=h.bl
 have HB:=hid (B6.new w 31 (.string ⟨#[]⟩) (.string ⟨#[]⟩) (.int .i64 0) (.int .i64 0) (.int .i64 0) (.slice none 0 0))
 have HS0:Hid (Below w.heap.size w (w.alloc (.cells #[.string ⟨#[]⟩,.string ⟨#[]⟩,.int .i64 0,.int .i64 0,.int .i64 0,.slice none 0 0] 31))):=(Below.refl _ _).alloc (Nat.le_refl _) _
 have HS:=hid (h.next HS0.out)
 have HG:=hid ((Gr.refl w p).below HS0.out)
 have WS:=hid (show w.heap.size<(w.alloc (.cells #[.string ⟨#[]⟩,.string ⟨#[]⟩,.int .i64 0,.int .i64 0,.int .i64 0,.slice none 0 0] 31)).heap.size from by simp)
 have f0:=fd0
 have f1:=fd1
 have f3:=fd3
 have Y0:=hid y0
 have Y1:=hid y1
 have Y2:=hid y2
 have Y3:=hid y3
 have Y4:=hid y4
 have Y5:=hid y5
 have Y6:=hid y6
 have HN:=hid hn
 clear h y0 y1 y2 y3 y4 y5 y6 hn
 go_enter Tryd.func81,Tryd.ntmps81
 go_upto_region 1 with fail
 generalize World.alloc w _=w1 at *
 obtain ⟨n0,hn0⟩:∃ n,n=w1.heap.size:=⟨_,rfl⟩
 have wn:w.heap.size<n0:=by rw [hn0];exact WS.out
 have pn:p<n0:=by omega
 have bn:b<n0:=by omega
 replace WS:=hid (Nat.le_of_eq hn0)
 clear hn0 HS0
 have WC:=hid (rw_any HS.out)
 go_upto_region 2 with (go_at_call 40;with_reducible refine Calls.mono WC.out ?_;rintro e w2 ⟨rfl,b2⟩;replace HS:=hid (HS.out.next b2);replace HG:=hid (HG.out.below b2);replace HB:=hid (HB.out.next b2);replace WS:=hid (Nat.le_trans WS.out b2.size);clear b2 WC)
 have IC:=hid (rislit_any HS.out)
 rw [Y0.out] at IC
 go_upto_region 4 with (go_at_call 61;with_reducible refine Calls.mono IC.out ?_;rintro e w3 ⟨rfl,b3⟩;replace HS:=hid (HS.out.next b3);replace HG:=hid (HG.out.below b3);replace HB:=hid (HB.out.next b3);replace WS:=hid (Nat.le_trans WS.out b3.size);clear b3 IC)
 go_wp2_with fail
 refine wp_loop_rounds 3 ?_
 rw [rounds_succ]
 go_upto_region 8 with fail
 have AL:=hid (show Below w3.heap.size w3 (w3.alloc (.cells #[.string ⟨#[109,105,110]⟩,.string ⟨#[109,97,120]⟩] 9)) from (Below.refl _ _).alloc (Nat.le_refl _) _)
 replace HS:=hid (HS.out.next AL.out)
 replace HG:=hid (HG.out.below AL.out)
 replace HB:=hid (HB.out.next AL.out)
 replace WS:=hid (Nat.le_trans WS.out AL.out.size)
 clear AL
 generalize World.alloc w3 _=v4 at *
 have TK:=hid (rtake_any HS.out ⟨#[109,105,110]⟩)
 rw [tk_no Y1.out,Y1.out] at TK
 go_wp2_with (go_at_call 41;with_reducible refine Calls.mono TK.out ?_;rintro e w4 ⟨rfl,h4,g4⟩;replace HS:=hid h4;replace HG:=hid (HG.out.trans g4);replace HB:=hid (HB.out.gr g4 (by omega));replace WS:=hid (Nat.le_trans WS.out g4.size);clear h4 g4 TK)
 rw [rounds_succ]
 go_upto_region 8 with fail
 have AL:=hid (show Below w4.heap.size w4 (w4.alloc (.cells #[.string ⟨#[109,105,110]⟩,.string ⟨#[109,97,120]⟩] 9)) from (Below.refl _ _).alloc (Nat.le_refl _) _)
 replace HS:=hid (HS.out.next AL.out)
 replace HG:=hid (HG.out.below AL.out)
 replace HB:=hid (HB.out.next AL.out)
 replace WS:=hid (Nat.le_trans WS.out AL.out.size)
 clear AL
 generalize World.alloc w4 _=v5 at *
 have TK:=hid (rtake_any HS.out ⟨#[109,97,120]⟩)
 rw [tk_no Y2.out,Y2.out] at TK
 go_wp2_with (go_at_call 41;with_reducible refine Calls.mono TK.out ?_;rintro e w5 ⟨rfl,h5,g5⟩;replace HS:=hid h5;replace HG:=hid (HG.out.trans g5);replace HB:=hid (HB.out.gr g5 (by omega));replace WS:=hid (Nat.le_trans WS.out g5.size);clear h5 g5 TK)
 rw [rounds_succ]
 go_upto_region 15 with fail
 have TK:=hid (rtake_any HS.out ⟨#[40]⟩)
 rw [tk_no Y3.out,Y3.out] at TK
 go_upto_region 19 with (go_at_call 41;with_reducible refine Calls.mono TK.out ?_;rintro e w6 ⟨rfl,h6,g6⟩;replace HS:=hid h6;replace HG:=hid (HG.out.trans g6);replace HB:=hid (HB.out.gr g6 (by omega));replace WS:=hid (Nat.le_trans WS.out g6.size);clear h6 g6 TK)
 have TK:=hid (rtake_any HS.out ⟨#[108,101,110]⟩)
 rw [tk_no Y4.out,Y4.out] at TK
 go_upto_region 24 with (go_at_call 41;with_reducible refine Calls.mono TK.out ?_;rintro e w7 ⟨rfl,h7,g7⟩;replace HS:=hid h7;replace HG:=hid (HG.out.trans g7);replace HB:=hid (HB.out.gr g7 (by omega));replace WS:=hid (Nat.le_trans WS.out g7.size);clear h7 g7 TK)
 have TK:=hid (rtake_any HS.out ⟨#[97,116]⟩)
 rw [tk_no Y5.out,Y5.out] at TK
 go_upto_region 31 with (go_at_call 41;with_reducible refine Calls.mono TK.out ?_;rintro e w8 ⟨rfl,h8,g8⟩;replace HS:=hid h8;replace HG:=hid (HG.out.trans g8);replace HB:=hid (HB.out.gr g8 (by omega));replace WS:=hid (Nat.le_trans WS.out g8.size);clear h8 g8 TK)
 have TK:=hid (rtake_any HS.out ⟨#[115,117,109]⟩)
 rw [tk_no Y6.out,Y6.out] at TK
 go_upto_region 40 with (go_at_call 41;with_reducible refine Calls.mono TK.out ?_;rintro e w9 ⟨rfl,h9,g9⟩;replace HS:=hid h9;replace HG:=hid (HG.out.trans g9);replace HB:=hid (HB.out.gr g9 (by omega));replace WS:=hid (Nat.le_trans WS.out g9.size);clear h9 g9 TK)
 have NC:=hid (rname_any HS.out)
 rw [HN.out] at NC
 go_wp2_with (go_at_call 42;with_reducible refine Calls.mono NC.out ?_;rintro e w30 ⟨rfl,h30,g30⟩;replace HS:=hid h30;replace HG:=hid (HG.out.trans g30);replace HB:=hid (HB.out.gr g30 (by omega));replace WS:=hid (Nat.le_trans WS.out g30.size);obtain ⟨u0,u1,u2,u3,u4,u5,uz⟩:=HB.out;have BF:=hid (HB.out.sets (.string ⟨#[110,97,109,101]⟩) (.string rn.1) (.int .i64 0) (.int .i64 0) (.int .i64 (aw s.l:Nat)) (.slice none 0 0));have SF:=hid (HS.out.put6 (q:=w.heap.size) (by omega) (by omega) (.string ⟨#[110,97,109,101]⟩) (.string rn.1) (.int .i64 0) (.int .i64 0) (.int .i64 (aw s.l:Nat)) (.slice none 0 0));have GF:=hid (HG.out.put6 (q:=w.heap.size) (by omega) (.string ⟨#[110,97,109,101]⟩) (.string rn.1) (.int .i64 0) (.int .i64 0) (.int .i64 (aw s.l:Nat)) (.slice none 0 0));clear h30 g30 NC)
 generalize World.setCell _ ⟨w.heap.size,5,none⟩ _=wf at *
 obtain ⟨q0,q1,q2,q3,q4,q5,_⟩:=BF.out
 exact bodyPost_ret (v:=.agg #[.string ⟨#[110,97,109,101]⟩,.string rn.1,.int .i64 0,.int .i64 0,.int .i64 (aw s.l:Nat),.slice none 0 0]) (by simp [results,Tryd.results81,go_sem,q0,q1,q2,q3,q4,q5]) rfl ⟨GF.out,SF.out,_,rfl,_,rfl,.nil⟩
end Go.Proofs.YtbeahnehjannpaaDoor
