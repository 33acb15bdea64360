/- Parts of the proof. -/
import Derived.Test.YtbeahnehjannpaaDoorKE
import Derived.BigQuiet
import Derived.Deep.RegionHeld3
namespace Go.Proofs.YtbeahnehjannpaaDoor
open Go.RowKit
set_option linter.unusedVariables false
set_option linter.unusedSimpArgs false
theorem is_nx {s:Sp} {t:ByteArray} (h:s.is t=true):s.nx.ok=true:=by
 unfold Sp.is at h
 simp only [Bool.and_eq_true] at h
 exact h.1.1
theorem tk_yes {s:Sp} {t:ByteArray} (h:s.is t=true):s.tk t=s.nx:=by unfold Sp.tk;rw [if_pos h]
theorem tk_no {s:Sp} {t:ByteArray} (h:s.is t=false):s.tk t=s:=by unfold Sp.tk;rw [h];rfl
set_option maxRecDepth 100000 in
set_option maxHeartbeats 4000000 in
theorem run_prim {w:World} {p b c:Nat} {ws:List Wo} {d:Nat} {s:Sp} (h:Sw w p b c ws d s) (y1:s.is ⟨#[45]⟩=false) (y2:s.is ⟨#[110,111,116]⟩=false) (r:Tr × Sp) (hP:∀ w,Sw w p b c ws d s→Calls Tryd.prog 81 #[.pointer (some ⟨p,0,none⟩)] w fun e w'=>Rn w w' p b c ws d e r) :
  Calls Tryd.prog 77 #[.pointer (some ⟨p,0,none⟩)] w fun e w'=>Rn w w' p b c ws d e r:=by
 have pl0:=h.pl
 have bl0:=h.bl
 have HB:=hid (B6.new w 31 (.string ⟨#[]⟩) (.string ⟨#[]⟩) (.int .i64 0) (.int .i64 0) (.int .i64 0) (.slice none 0 0))
 have HS0:Hid (Below w.heap.size w (w.alloc (.cells #[.string ⟨#[]⟩,.string ⟨#[]⟩,.int .i64 0,.int .i64 0,.int .i64 0,.slice none 0 0] 31))):=(Below.refl _ _).alloc (Nat.le_refl _) _
 have HS:=hid (h.next HS0.out)
 have HG:=hid ((Gr.refl w p).below HS0.out)
 have WS:=hid (show w.heap.size<(w.alloc (.cells #[.string ⟨#[]⟩,.string ⟨#[]⟩,.int .i64 0,.int .i64 0,.int .i64 0,.slice none 0 0] 31)).heap.size from by simp)
 have f0:=fd0
 have f1:=fd1
 have f3:=fd3
 have Y1:=hid y1
 have Y2:=hid y2
 have PH:=hid hP
 clear h y1 y2 hP
 go_enter Tryd.func77,Tryd.ntmps77
 go_upto_region 1 with fail
 generalize World.alloc w _=w1 at *
 obtain ⟨n0,hn0⟩:∃ n,n=w1.heap.size:=⟨_,rfl⟩
 have wn:w.heap.size<n0:=by rw [hn0];exact WS.out
 have pn:p<n0:=by omega
 have bn:b<n0:=by omega
 replace WS:=hid (Nat.le_of_eq hn0)
 clear hn0 HS0
 have WC:=hid (rw_any HS.out)
 go_upto_region 3 with (go_at_call 40;with_reducible refine Calls.mono WC.out ?_;rintro e w2 ⟨rfl,b2⟩;replace HS:=hid (HS.out.next b2);replace HG:=hid (HG.out.below b2);replace HB:=hid (HB.out.next b2);replace WS:=hid (Nat.le_trans WS.out b2.size);clear b2 WC)
 have TK:=hid (rtake_any HS.out ⟨#[45]⟩)
 rw [tk_no Y1.out,Y1.out] at TK
 go_upto_region 5 with (go_at_call 41;with_reducible refine Calls.mono TK.out ?_;rintro e w3 ⟨rfl,h3,g3⟩;replace HS:=hid h3;replace HG:=hid (HG.out.trans g3);replace HB:=hid (HB.out.gr g3 (by omega));replace WS:=hid (Nat.le_trans WS.out g3.size);clear h3 g3 TK)
 have TK:=hid (rtake_any HS.out ⟨#[110,111,116]⟩)
 rw [tk_no Y2.out,Y2.out] at TK
 go_upto_region 8 with (go_at_call 41;with_reducible refine Calls.mono TK.out ?_;rintro e w4 ⟨rfl,h4,g4⟩;replace HS:=hid h4;replace HG:=hid (HG.out.trans g4);replace HB:=hid (HB.out.gr g4 (by omega));replace WS:=hid (Nat.le_trans WS.out g4.size);clear h4 g4 TK)
 have PC:=hid (PH.out _ HS.out)
 go_wp2_with (go_at_call 81;with_reducible refine Calls.mono PC.out ?_;rintro e w5 h5;obtain ⟨g5,s5,sa5,sm5,sc5,rfl,nv5⟩:=h5.parts;have NV5:=hid nv5;replace HG:=hid (HG.out.trans g5);replace HB:=hid (HB.out.gr g5 (by omega));have WO5:=WS;replace WS:=hid (Nat.le_trans WS.out g5.size);replace HS:=hid s5;obtain ⟨u0,u1,u2,u3,u4,u5,uz⟩:=HB.out;have BF:=hid (HB.out.sets (.string r.1.op) (.string r.1.name) (.int .i64 (r.1.kind:Nat)) (.int .i64 r.1.n) (.int .i64 (r.1.pl:Nat)) (.slice sa5 sm5 sc5));have SF:=hid (HS.out.put6 (q:=w.heap.size) (by omega) (by omega) (.string r.1.op) (.string r.1.name) (.int .i64 (r.1.kind:Nat)) (.int .i64 r.1.n) (.int .i64 (r.1.pl:Nat)) (.slice sa5 sm5 sc5));have GF:=hid (HG.out.put6 (q:=w.heap.size) (by omega) (.string r.1.op) (.string r.1.name) (.int .i64 (r.1.kind:Nat)) (.int .i64 r.1.n) (.int .i64 (r.1.pl:Nat)) (.slice sa5 sm5 sc5));have NF:=hid (Nd.put6x (q:=w.heap.size) (m:=w.heap.size) NV5.out (Nat.lt_of_lt_of_le wn WO5.out) (Nat.le_of_lt (Nat.lt_of_lt_of_le wn WO5.out)) (.string r.1.op) (.string r.1.name) (.int .i64 (r.1.kind:Nat)) (.int .i64 r.1.n) (.int .i64 (r.1.pl:Nat)) (.slice sa5 sm5 sc5));clear h5 g5 s5 nv5 PC)
 generalize World.setCell _ ⟨w.heap.size,5,none⟩ _=wf at *
 obtain ⟨q0,q1,q2,q3,q4,q5,_⟩:=BF.out
 exact bodyPost_ret (v:=.agg #[.string r.1.op,.string r.1.name,.int .i64 (r.1.kind:Nat),.int .i64 r.1.n,.int .i64 (r.1.pl:Nat),.slice sa5 sm5 sc5]) (by simp [results,Tryd.results77,go_sem,q0,q1,q2,q3,q4,q5]) rfl ⟨GF.out,SF.out,_,rfl,_,rfl,NF.out⟩
set_option maxRecDepth 100000 in
set_option maxHeartbeats 4000000 in
theorem run_neg_lim {w:World} {p b c:Nat} {ws:List Wo} {s:Sp} (h:Sw w p b c ws 40 s) (y:s.is ⟨#[45]⟩=true) :
  Calls Tryd.prog 77 #[.pointer (some ⟨p,0,none⟩)] w fun e w'=>Rn w w' p b c ws 40 e (Tr.zero,s.nx.lim):=by
 have pl0:=h.pl
 have bl0:=h.bl
 have HB:=hid (B6.new w 31 (.string ⟨#[]⟩) (.string ⟨#[]⟩) (.int .i64 0) (.int .i64 0) (.int .i64 0) (.slice none 0 0))
 have HS0:Hid (Below w.heap.size w (w.alloc (.cells #[.string ⟨#[]⟩,.string ⟨#[]⟩,.int .i64 0,.int .i64 0,.int .i64 0,.slice none 0 0] 31))):=(Below.refl _ _).alloc (Nat.le_refl _) _
 have HS:=hid (h.next HS0.out)
 have HG:=hid ((Gr.refl w p).below HS0.out)
 have WS:=hid (show w.heap.size<(w.alloc (.cells #[.string ⟨#[]⟩,.string ⟨#[]⟩,.int .i64 0,.int .i64 0,.int .i64 0,.slice none 0 0] 31)).heap.size from by simp)
 have f0:=fd0
 have f1:=fd1
 have f3:=fd3
 have Y:=hid y
 clear h y
 go_enter Tryd.func77,Tryd.ntmps77
 go_upto_region 1 with fail
 generalize World.alloc w _=w1 at *
 obtain ⟨n0,hn0⟩:∃ n,n=w1.heap.size:=⟨_,rfl⟩
 have wn:w.heap.size<n0:=by rw [hn0];exact WS.out
 have pn:p<n0:=by omega
 have bn:b<n0:=by omega
 replace WS:=hid (Nat.le_of_eq hn0)
 clear hn0 HS0
 have WC:=hid (rw_any HS.out)
 go_upto_region 3 with (go_at_call 40;with_reducible refine Calls.mono WC.out ?_;rintro e w2 ⟨rfl,b2⟩;replace HS:=hid (HS.out.next b2);replace HG:=hid (HG.out.below b2);replace HB:=hid (HB.out.next b2);replace WS:=hid (Nat.le_trans WS.out b2.size);clear b2 WC)
 have TK:=hid (rtake_any HS.out ⟨#[45]⟩)
 rw [tk_yes Y.out,Y.out] at TK
 go_upto_region 9 with (go_at_call 41;with_reducible refine Calls.mono TK.out ?_;rintro e w3 ⟨rfl,h3,g3⟩;replace HS:=hid h3;replace HG:=hid (HG.out.trans g3);replace HB:=hid (HB.out.gr g3 (by omega));replace WS:=hid (Nat.le_trans WS.out g3.size);clear h3 g3 TK)
 have IC:=hid (rin_lim HS.out (is_nx Y.out))
 go_upto_region 10 with (go_at_call 58;with_reducible refine Calls.mono IC.out ?_;rintro e w6 ⟨rfl,h6,g6⟩;replace HS:=hid h6;replace HG:=hid (HG.out.trans g6);replace HB:=hid (HB.out.gr g6 (by omega));replace WS:=hid (Nat.le_trans WS.out g6.size);clear h6 g6 IC)
 obtain ⟨u0,u1,u2,u3,u4,u5,uz⟩:=HB.out
 have BF:=hid (HB.out.sets (.string ⟨#[]⟩) (.string ⟨#[]⟩) (.int .i64 0) (.int .i64 0) (.int .i64 0) (.slice none 0 0))
 have SF:=hid (HS.out.put6 (q:=w.heap.size) (by omega) (by omega) (.string ⟨#[]⟩) (.string ⟨#[]⟩) (.int .i64 0) (.int .i64 0) (.int .i64 0) (.slice none 0 0))
 have GF:=hid (HG.out.put6 (q:=w.heap.size) (by omega) (.string ⟨#[]⟩) (.string ⟨#[]⟩) (.int .i64 0) (.int .i64 0) (.int .i64 0) (.slice none 0 0))
 go_wp2
 generalize World.setCell _ ⟨w.heap.size,5,none⟩ _=wf at *
 obtain ⟨q0,q1,q2,q3,q4,q5,_⟩:=BF.out
 exact bodyPost_ret (v:=.agg #[.string ⟨#[]⟩,.string ⟨#[]⟩,.int .i64 0,.int .i64 0,.int .i64 0,.slice none 0 0]) (by simp [results,Tryd.results77,go_sem,q0,q1,q2,q3,q4,q5]) rfl ⟨GF.out,SF.out,_,rfl,_,rfl,.nil⟩
set_option maxRecDepth 100000 in
set_option maxHeartbeats 4000000 in
theorem run_neg_ok {w:World} {p b c:Nat} {ws:List Wo} {d:Nat} {s:Sp} (h:Sw w p b c ws d s) (y:s.is ⟨#[45]⟩=true) (hd:d<40) (r:Tr × Sp) (hU:∀ w,Sw w p b c ws (d+1) s.nx→Calls Tryd.prog 77 #[.pointer (some ⟨p,0,none⟩)] w fun e w'=>Rn w w' p b c ws (d+1) e r) :
  Calls Tryd.prog 77 #[.pointer (some ⟨p,0,none⟩)] w fun e w'=>Rn w w' p b c ws d e (one ⟨#[110,101,103]⟩ ⟨#[]⟩ (aw s.l) r.1,r.2):=by
 have pl0:=h.pl
 have bl0:=h.bl
 have HB:=hid (B6.new w 31 (.string ⟨#[]⟩) (.string ⟨#[]⟩) (.int .i64 0) (.int .i64 0) (.int .i64 0) (.slice none 0 0))
 have HS0:Hid (Below w.heap.size w (w.alloc (.cells #[.string ⟨#[]⟩,.string ⟨#[]⟩,.int .i64 0,.int .i64 0,.int .i64 0,.slice none 0 0] 31))):=(Below.refl _ _).alloc (Nat.le_refl _) _
 have HS:=hid (h.next HS0.out)
 have HG:=hid ((Gr.refl w p).below HS0.out)
 have WS:=hid (show w.heap.size<(w.alloc (.cells #[.string ⟨#[]⟩,.string ⟨#[]⟩,.int .i64 0,.int .i64 0,.int .i64 0,.slice none 0 0] 31)).heap.size from by simp)
 have f0:=fd0
 have f1:=fd1
 have f3:=fd3
 have Y:=hid y
 have UH:=hid hU
 clear h y hU
 go_enter Tryd.func77,Tryd.ntmps77
 go_upto_region 1 with fail
 generalize World.alloc w _=w1 at *
 obtain ⟨n0,hn0⟩:∃ n,n=w1.heap.size:=⟨_,rfl⟩
 have wn:w.heap.size<n0:=by rw [hn0];exact WS.out
 have pn:p<n0:=by omega
 have bn:b<n0:=by omega
 replace WS:=hid (Nat.le_of_eq hn0)
 clear hn0 HS0
 have WC:=hid (rw_any HS.out)
 go_upto_region 3 with (go_at_call 40;with_reducible refine Calls.mono WC.out ?_;rintro e w2 ⟨rfl,b2⟩;replace HS:=hid (HS.out.next b2);replace HG:=hid (HG.out.below b2);replace HB:=hid (HB.out.next b2);replace WS:=hid (Nat.le_trans WS.out b2.size);clear b2 WC)
 have TK:=hid (rtake_any HS.out ⟨#[45]⟩)
 rw [tk_yes Y.out,Y.out] at TK
 go_upto_region 9 with (go_at_call 41;with_reducible refine Calls.mono TK.out ?_;rintro e w3 ⟨rfl,h3,g3⟩;replace HS:=hid h3;replace HG:=hid (HG.out.trans g3);replace HB:=hid (HB.out.gr g3 (by omega));replace WS:=hid (Nat.le_trans WS.out g3.size);clear h3 g3 TK)
 have IC:=hid (rin_ok HS.out (is_nx Y.out) hd)
 go_upto_region 11 with (go_at_call 58;with_reducible refine Calls.mono IC.out ?_;rintro e w6 ⟨rfl,h6,g6⟩;replace HS:=hid h6;replace HG:=hid (HG.out.trans g6);replace HB:=hid (HB.out.gr g6 (by omega));replace WS:=hid (Nat.le_trans WS.out g6.size);clear h6 g6 IC)
 have UC:=hid (UH.out _ HS.out)
 go_upto_region 12 with (go_at_call 77;with_reducible refine Calls.mono UC.out ?_;rintro e w7 h7;obtain ⟨g7,s7,sa7,sm7,sc7,rfl,nv7⟩:=h7.parts;have NV7:=hid nv7;replace HG:=hid (HG.out.trans g7);replace HB:=hid (HB.out.gr g7 (by omega));have WO7:=WS;replace WS:=hid (Nat.le_trans WS.out g7.size);replace HS:=hid s7;clear h7 g7 s7 nv7 UC)
 have BA:=hid (Bx.new (m:=n0) NV7.out WO7.out WS.out 31)
 have AL7:=hid (show Below w7.heap.size w7 (w7.alloc (.cells #[.string r.1.op,.string r.1.name,.int .i64 (r.1.kind:Nat),.int .i64 r.1.n,.int .i64 (r.1.pl:Nat),.slice sa7 sm7 sc7] 31)) from (Below.refl _ _).alloc (Nat.le_refl _) _)
 replace HS:=hid (HS.out.next AL7.out)
 replace HG:=hid (HG.out.below AL7.out)
 replace HB:=hid (HB.out.next AL7.out)
 replace WS:=hid (Nat.le_trans WS.out AL7.out.size)
 have ge7:n0≤w7.heap.size:=BA.out.l
 clear AL7 NV7 WO7
 generalize World.alloc w7 _=y7 at *
 generalize w7.heap.size=bBA at *
 obtain ⟨BA0,BA1,BA2,BA3,BA4,BA5,_⟩:=BA.out.b
 have OC:=hid (rout_any HS.out hd)
 go_upto_region 13 with (go_at_call 60;with_reducible refine Calls.mono OC.out ?_;rintro e w8 ⟨rfl,h8,g8⟩;replace HS:=hid h8;replace HG:=hid (HG.out.trans g8);replace HB:=hid (HB.out.gr g8 (by omega));replace WS:=hid (Nat.le_trans WS.out g8.size);replace BA:=hid (BA.out.gr g8 pn);clear h8 g8 OC)
 obtain ⟨u0,u1,u2,u3,u4,u5,uz⟩:=HB.out
 obtain ⟨BA0,BA1,BA2,BA3,BA4,BA5,_⟩:=BA.out.b
 have HS7:=hid (show Below w8.heap.size w8 (w8.alloc (.cells #[.string r.1.op,.string r.1.name,.int .i64 (r.1.kind:Nat),.int .i64 r.1.n,.int .i64 (r.1.pl:Nat),.slice sa7 sm7 sc7] 31)) from (Below.refl _ _).alloc (Nat.le_refl _) _)
 have ys:n0≤w8.heap.size:=WS.out
 have CBA:=hid (show NC (w8.alloc (.cells #[.string r.1.op,.string r.1.name,.int .i64 (r.1.kind:Nat),.int .i64 r.1.n,.int .i64 (r.1.pl:Nat),.slice sa7 sm7 sc7] 31)) w8.heap.size 0 r.1 (.slice sa7 sm7 sc7) from ⟨by simp,by simp,by simp,by simp,by simp,by simp⟩)
 have NN7:=hid (nd_one1 (c:=1) (S:=fun g=>n0≤g) ys CBA.out (BA.out.d.next HS7.out))
 replace HB:=hid (HB.out.next HS7.out)
 replace HS:=hid (HS.out.next HS7.out)
 replace HG:=hid (HG.out.below HS7.out)
 clear u0 u1 u2 u3 u4 u5 uz HS7 CBA
 obtain ⟨u0,u1,u2,u3,u4,u5,uz⟩:=HB.out
 have BF:=hid (HB.out.sets (.string ⟨#[110,101,103]⟩) (.string ⟨#[]⟩) (.int .i64 0) (.int .i64 0) (.int .i64 (aw s.l:Nat)) (.slice (some ⟨w8.heap.size,0,none⟩) 1 1))
 have SF:=hid (HS.out.put6 (q:=w.heap.size) (by omega) (by omega) (.string ⟨#[110,101,103]⟩) (.string ⟨#[]⟩) (.int .i64 0) (.int .i64 0) (.int .i64 (aw s.l:Nat)) (.slice (some ⟨w8.heap.size,0,none⟩) 1 1))
 have GF:=hid (HG.out.put6 (q:=w.heap.size) (by omega) (.string ⟨#[110,101,103]⟩) (.string ⟨#[]⟩) (.int .i64 0) (.int .i64 0) (.int .i64 (aw s.l:Nat)) (.slice (some ⟨w8.heap.size,0,none⟩) 1 1))
 have NF:=hid (Nd.put6x (q:=w.heap.size) (m:=w.heap.size) NN7.out wn (by omega) (.string ⟨#[110,101,103]⟩) (.string ⟨#[]⟩) (.int .i64 0) (.int .i64 0) (.int .i64 (aw s.l:Nat)) (.slice (some ⟨w8.heap.size,0,none⟩) 1 1))
 go_wp2_with fail
 generalize World.setCell _ ⟨w.heap.size,5,none⟩ _=wf at *
 obtain ⟨q0,q1,q2,q3,q4,q5,_⟩:=BF.out
 exact bodyPost_ret (v:=.agg #[.string ⟨#[110,101,103]⟩,.string ⟨#[]⟩,.int .i64 0,.int .i64 0,.int .i64 (aw s.l:Nat),.slice (some ⟨w8.heap.size,0,none⟩) 1 1]) (by simp [results,Tryd.results77,go_sem,q0,q1,q2,q3,q4,q5]) rfl ⟨GF.out,SF.out,_,rfl,_,rfl,NF.out⟩
set_option maxRecDepth 100000 in
set_option maxHeartbeats 4000000 in
theorem run_not_lim {w:World} {p b c:Nat} {ws:List Wo} {s:Sp} (h:Sw w p b c ws 40 s) (y1:s.is ⟨#[45]⟩=false) (y:s.is ⟨#[110,111,116]⟩=true) :
  Calls Tryd.prog 77 #[.pointer (some ⟨p,0,none⟩)] w fun e w'=>Rn w w' p b c ws 40 e (Tr.zero,s.nx.lim):=by
 have pl0:=h.pl
 have bl0:=h.bl
 have HB:=hid (B6.new w 31 (.string ⟨#[]⟩) (.string ⟨#[]⟩) (.int .i64 0) (.int .i64 0) (.int .i64 0) (.slice none 0 0))
 have HS0:Hid (Below w.heap.size w (w.alloc (.cells #[.string ⟨#[]⟩,.string ⟨#[]⟩,.int .i64 0,.int .i64 0,.int .i64 0,.slice none 0 0] 31))):=(Below.refl _ _).alloc (Nat.le_refl _) _
 have HS:=hid (h.next HS0.out)
 have HG:=hid ((Gr.refl w p).below HS0.out)
 have WS:=hid (show w.heap.size<(w.alloc (.cells #[.string ⟨#[]⟩,.string ⟨#[]⟩,.int .i64 0,.int .i64 0,.int .i64 0,.slice none 0 0] 31)).heap.size from by simp)
 have f0:=fd0
 have f1:=fd1
 have f3:=fd3
 have Y1:=hid y1
 have Y:=hid y
 clear h y y1
 go_enter Tryd.func77,Tryd.ntmps77
 go_upto_region 1 with fail
 generalize World.alloc w _=w1 at *
 obtain ⟨n0,hn0⟩:∃ n,n=w1.heap.size:=⟨_,rfl⟩
 have wn:w.heap.size<n0:=by rw [hn0];exact WS.out
 have pn:p<n0:=by omega
 have bn:b<n0:=by omega
 replace WS:=hid (Nat.le_of_eq hn0)
 clear hn0 HS0
 have WC:=hid (rw_any HS.out)
 go_upto_region 3 with (go_at_call 40;with_reducible refine Calls.mono WC.out ?_;rintro e w2 ⟨rfl,b2⟩;replace HS:=hid (HS.out.next b2);replace HG:=hid (HG.out.below b2);replace HB:=hid (HB.out.next b2);replace WS:=hid (Nat.le_trans WS.out b2.size);clear b2 WC)
 have TK:=hid (rtake_any HS.out ⟨#[45]⟩)
 rw [tk_no Y1.out,Y1.out] at TK
 go_upto_region 5 with (go_at_call 41;with_reducible refine Calls.mono TK.out ?_;rintro e w3 ⟨rfl,h3,g3⟩;replace HS:=hid h3;replace HG:=hid (HG.out.trans g3);replace HB:=hid (HB.out.gr g3 (by omega));replace WS:=hid (Nat.le_trans WS.out g3.size);clear h3 g3 TK)
 have TK:=hid (rtake_any HS.out ⟨#[110,111,116]⟩)
 rw [tk_yes Y.out,Y.out] at TK
 go_upto_region 9 with (go_at_call 41;with_reducible refine Calls.mono TK.out ?_;rintro e w4 ⟨rfl,h4,g4⟩;replace HS:=hid h4;replace HG:=hid (HG.out.trans g4);replace HB:=hid (HB.out.gr g4 (by omega));replace WS:=hid (Nat.le_trans WS.out g4.size);clear h4 g4 TK)
 have IC:=hid (rin_lim HS.out (is_nx Y.out))
 go_upto_region 10 with (go_at_call 58;with_reducible refine Calls.mono IC.out ?_;rintro e w6 ⟨rfl,h6,g6⟩;replace HS:=hid h6;replace HG:=hid (HG.out.trans g6);replace HB:=hid (HB.out.gr g6 (by omega));replace WS:=hid (Nat.le_trans WS.out g6.size);clear h6 g6 IC)
 obtain ⟨u0,u1,u2,u3,u4,u5,uz⟩:=HB.out
 have BF:=hid (HB.out.sets (.string ⟨#[]⟩) (.string ⟨#[]⟩) (.int .i64 0) (.int .i64 0) (.int .i64 0) (.slice none 0 0))
 have SF:=hid (HS.out.put6 (q:=w.heap.size) (by omega) (by omega) (.string ⟨#[]⟩) (.string ⟨#[]⟩) (.int .i64 0) (.int .i64 0) (.int .i64 0) (.slice none 0 0))
 have GF:=hid (HG.out.put6 (q:=w.heap.size) (by omega) (.string ⟨#[]⟩) (.string ⟨#[]⟩) (.int .i64 0) (.int .i64 0) (.int .i64 0) (.slice none 0 0))
 go_wp2
 generalize World.setCell _ ⟨w.heap.size,5,none⟩ _=wf at *
 obtain ⟨q0,q1,q2,q3,q4,q5,_⟩:=BF.out
 exact bodyPost_ret (v:=.agg #[.string ⟨#[]⟩,.string ⟨#[]⟩,.int .i64 0,.int .i64 0,.int .i64 0,.slice none 0 0]) (by simp [results,Tryd.results77,go_sem,q0,q1,q2,q3,q4,q5]) rfl ⟨GF.out,SF.out,_,rfl,_,rfl,.nil⟩
set_option maxRecDepth 100000 in
set_option maxHeartbeats 4000000 in
theorem run_not_ok {w:World} {p b c:Nat} {ws:List Wo} {d:Nat} {s:Sp} (h:Sw w p b c ws d s) (y1:s.is ⟨#[45]⟩=false) (y:s.is ⟨#[110,111,116]⟩=true) (hd:d<40) (r:Tr × Sp) (hU:∀ w,Sw w p b c ws (d+1) s.nx→Calls Tryd.prog 77 #[.pointer (some ⟨p,0,none⟩)] w fun e w'=>Rn w w' p b c ws (d+1) e r) :
  Calls Tryd.prog 77 #[.pointer (some ⟨p,0,none⟩)] w fun e w'=>Rn w w' p b c ws d e (one ⟨#[110,111,116]⟩ ⟨#[]⟩ (aw s.l) r.1,r.2):=by
 have pl0:=h.pl
 have bl0:=h.bl
 have HB:=hid (B6.new w 31 (.string ⟨#[]⟩) (.string ⟨#[]⟩) (.int .i64 0) (.int .i64 0) (.int .i64 0) (.slice none 0 0))
 have HS0:Hid (Below w.heap.size w (w.alloc (.cells #[.string ⟨#[]⟩,.string ⟨#[]⟩,.int .i64 0,.int .i64 0,.int .i64 0,.slice none 0 0] 31))):=(Below.refl _ _).alloc (Nat.le_refl _) _
 have HS:=hid (h.next HS0.out)
 have HG:=hid ((Gr.refl w p).below HS0.out)
 have WS:=hid (show w.heap.size<(w.alloc (.cells #[.string ⟨#[]⟩,.string ⟨#[]⟩,.int .i64 0,.int .i64 0,.int .i64 0,.slice none 0 0] 31)).heap.size from by simp)
 have f0:=fd0
 have f1:=fd1
 have f3:=fd3
 have Y1:=hid y1
 have Y:=hid y
 have UH:=hid hU
 clear h y y1 hU
 go_enter Tryd.func77,Tryd.ntmps77
 go_upto_region 1 with fail
 generalize World.alloc w _=w1 at *
 obtain ⟨n0,hn0⟩:∃ n,n=w1.heap.size:=⟨_,rfl⟩
 have wn:w.heap.size<n0:=by rw [hn0];exact WS.out
 have pn:p<n0:=by omega
 have bn:b<n0:=by omega
 replace WS:=hid (Nat.le_of_eq hn0)
 clear hn0 HS0
 have WC:=hid (rw_any HS.out)
 go_upto_region 3 with (go_at_call 40;with_reducible refine Calls.mono WC.out ?_;rintro e w2 ⟨rfl,b2⟩;replace HS:=hid (HS.out.next b2);replace HG:=hid (HG.out.below b2);replace HB:=hid (HB.out.next b2);replace WS:=hid (Nat.le_trans WS.out b2.size);clear b2 WC)
 have TK:=hid (rtake_any HS.out ⟨#[45]⟩)
 rw [tk_no Y1.out,Y1.out] at TK
 go_upto_region 5 with (go_at_call 41;with_reducible refine Calls.mono TK.out ?_;rintro e w3 ⟨rfl,h3,g3⟩;replace HS:=hid h3;replace HG:=hid (HG.out.trans g3);replace HB:=hid (HB.out.gr g3 (by omega));replace WS:=hid (Nat.le_trans WS.out g3.size);clear h3 g3 TK)
 have TK:=hid (rtake_any HS.out ⟨#[110,111,116]⟩)
 rw [tk_yes Y.out,Y.out] at TK
 go_upto_region 9 with (go_at_call 41;with_reducible refine Calls.mono TK.out ?_;rintro e w4 ⟨rfl,h4,g4⟩;replace HS:=hid h4;replace HG:=hid (HG.out.trans g4);replace HB:=hid (HB.out.gr g4 (by omega));replace WS:=hid (Nat.le_trans WS.out g4.size);clear h4 g4 TK)
 have IC:=hid (rin_ok HS.out (is_nx Y.out) hd)
 go_upto_region 11 with (go_at_call 58;with_reducible refine Calls.mono IC.out ?_;rintro e w6 ⟨rfl,h6,g6⟩;replace HS:=hid h6;replace HG:=hid (HG.out.trans g6);replace HB:=hid (HB.out.gr g6 (by omega));replace WS:=hid (Nat.le_trans WS.out g6.size);clear h6 g6 IC)
 have UC:=hid (UH.out _ HS.out)
 go_upto_region 12 with (go_at_call 77;with_reducible refine Calls.mono UC.out ?_;rintro e w7 h7;obtain ⟨g7,s7,sa7,sm7,sc7,rfl,nv7⟩:=h7.parts;have NV7:=hid nv7;replace HG:=hid (HG.out.trans g7);replace HB:=hid (HB.out.gr g7 (by omega));have WO7:=WS;replace WS:=hid (Nat.le_trans WS.out g7.size);replace HS:=hid s7;clear h7 g7 s7 nv7 UC)
 have BA:=hid (Bx.new (m:=n0) NV7.out WO7.out WS.out 31)
 have AL7:=hid (show Below w7.heap.size w7 (w7.alloc (.cells #[.string r.1.op,.string r.1.name,.int .i64 (r.1.kind:Nat),.int .i64 r.1.n,.int .i64 (r.1.pl:Nat),.slice sa7 sm7 sc7] 31)) from (Below.refl _ _).alloc (Nat.le_refl _) _)
 replace HS:=hid (HS.out.next AL7.out)
 replace HG:=hid (HG.out.below AL7.out)
 replace HB:=hid (HB.out.next AL7.out)
 replace WS:=hid (Nat.le_trans WS.out AL7.out.size)
 have ge7:n0≤w7.heap.size:=BA.out.l
 clear AL7 NV7 WO7
 generalize World.alloc w7 _=y7 at *
 generalize w7.heap.size=bBA at *
 obtain ⟨BA0,BA1,BA2,BA3,BA4,BA5,_⟩:=BA.out.b
 have OC:=hid (rout_any HS.out hd)
 go_upto_region 13 with (go_at_call 60;with_reducible refine Calls.mono OC.out ?_;rintro e w8 ⟨rfl,h8,g8⟩;replace HS:=hid h8;replace HG:=hid (HG.out.trans g8);replace HB:=hid (HB.out.gr g8 (by omega));replace WS:=hid (Nat.le_trans WS.out g8.size);replace BA:=hid (BA.out.gr g8 pn);clear h8 g8 OC)
 obtain ⟨u0,u1,u2,u3,u4,u5,uz⟩:=HB.out
 obtain ⟨BA0,BA1,BA2,BA3,BA4,BA5,_⟩:=BA.out.b
 have HS7:=hid (show Below w8.heap.size w8 (w8.alloc (.cells #[.string r.1.op,.string r.1.name,.int .i64 (r.1.kind:Nat),.int .i64 r.1.n,.int .i64 (r.1.pl:Nat),.slice sa7 sm7 sc7] 31)) from (Below.refl _ _).alloc (Nat.le_refl _) _)
 have ys:n0≤w8.heap.size:=WS.out
 have CBA:=hid (show NC (w8.alloc (.cells #[.string r.1.op,.string r.1.name,.int .i64 (r.1.kind:Nat),.int .i64 r.1.n,.int .i64 (r.1.pl:Nat),.slice sa7 sm7 sc7] 31)) w8.heap.size 0 r.1 (.slice sa7 sm7 sc7) from ⟨by simp,by simp,by simp,by simp,by simp,by simp⟩)
 have NN7:=hid (nd_one1 (c:=1) (S:=fun g=>n0≤g) ys CBA.out (BA.out.d.next HS7.out))
 replace HB:=hid (HB.out.next HS7.out)
 replace HS:=hid (HS.out.next HS7.out)
 replace HG:=hid (HG.out.below HS7.out)
 clear u0 u1 u2 u3 u4 u5 uz HS7 CBA
 obtain ⟨u0,u1,u2,u3,u4,u5,uz⟩:=HB.out
 have BF:=hid (HB.out.sets (.string ⟨#[110,111,116]⟩) (.string ⟨#[]⟩) (.int .i64 0) (.int .i64 0) (.int .i64 (aw s.l:Nat)) (.slice (some ⟨w8.heap.size,0,none⟩) 1 1))
 have SF:=hid (HS.out.put6 (q:=w.heap.size) (by omega) (by omega) (.string ⟨#[110,111,116]⟩) (.string ⟨#[]⟩) (.int .i64 0) (.int .i64 0) (.int .i64 (aw s.l:Nat)) (.slice (some ⟨w8.heap.size,0,none⟩) 1 1))
 have GF:=hid (HG.out.put6 (q:=w.heap.size) (by omega) (.string ⟨#[110,111,116]⟩) (.string ⟨#[]⟩) (.int .i64 0) (.int .i64 0) (.int .i64 (aw s.l:Nat)) (.slice (some ⟨w8.heap.size,0,none⟩) 1 1))
 have NF:=hid (Nd.put6x (q:=w.heap.size) (m:=w.heap.size) NN7.out wn (by omega) (.string ⟨#[110,111,116]⟩) (.string ⟨#[]⟩) (.int .i64 0) (.int .i64 0) (.int .i64 (aw s.l:Nat)) (.slice (some ⟨w8.heap.size,0,none⟩) 1 1))
 go_wp2_with fail
 generalize World.setCell _ ⟨w.heap.size,5,none⟩ _=wf at *
 obtain ⟨q0,q1,q2,q3,q4,q5,_⟩:=BF.out
 exact bodyPost_ret (v:=.agg #[.string ⟨#[110,111,116]⟩,.string ⟨#[]⟩,.int .i64 0,.int .i64 0,.int .i64 (aw s.l:Nat),.slice (some ⟨w8.heap.size,0,none⟩) 1 1]) (by simp [results,Tryd.results77,go_sem,q0,q1,q2,q3,q4,q5]) rfl ⟨GF.out,SF.out,_,rfl,_,rfl,NF.out⟩
set_option maxRecDepth 100000 in
set_option maxHeartbeats 4000000 in
theorem rins_if {w:World} {p b c:Nat} {ws:List Wo} {d:Nat} {s:Sp} (h:Sw w p b c ws d s) (E:Ax) (hE:∀ w s,Sw w p b c ws d s→Calls Tryd.prog 45 #[.pointer (some ⟨p,0,none⟩)] w fun e w'=>Rn w w' p b c ws d e (E s)) (y:s.is ⟨#[105,102]⟩=true) (ra rb rc:Tr × Sp) (ha:E s.nx=ra) (hb:E (ra.2.want ⟨#[116,104,101,110]⟩)=rb) (hc:E (rb.2.want ⟨#[101,108,115,101]⟩)=rc) :
  Calls Tryd.prog 59 #[.pointer (some ⟨p,0,none⟩)] w fun e w'=>Rn w w' p b c ws d e (.nd ⟨#[105,102]⟩ ⟨#[]⟩ 0 0 (aw s.l) [ra.1,rb.1,rc.1],rc.2):=by
 have pl0:=h.pl
 have bl0:=h.bl
 have HB:=hid (B6.new w 31 (.string ⟨#[]⟩) (.string ⟨#[]⟩) (.int .i64 0) (.int .i64 0) (.int .i64 0) (.slice none 0 0))
 have HS0:Hid (Below w.heap.size w (w.alloc (.cells #[.string ⟨#[]⟩,.string ⟨#[]⟩,.int .i64 0,.int .i64 0,.int .i64 0,.slice none 0 0] 31))):=(Below.refl _ _).alloc (Nat.le_refl _) _
 have HS:=hid (h.next HS0.out)
 have HG:=hid ((Gr.refl w p).below HS0.out)
 have WS:=hid (show w.heap.size<(w.alloc (.cells #[.string ⟨#[]⟩,.string ⟨#[]⟩,.int .i64 0,.int .i64 0,.int .i64 0,.slice none 0 0] 31)).heap.size from by simp)
 have f0:=fd0
 have f1:=fd1
 have f3:=fd3
 have Y:=hid y
 have EH:=hid hE
 have HA:=hid ha
 have HB1:=hid hb
 have HC1:=hid hc
 clear h y hE ha hb hc
 go_enter Tryd.func59,Tryd.ntmps59
 go_upto_region 1 with fail
 generalize World.alloc w _=w1 at *
 obtain ⟨n0,hn0⟩:∃ n,n=w1.heap.size:=⟨_,rfl⟩
 have wn:w.heap.size<n0:=by rw [hn0];exact WS.out
 have pn:p<n0:=by omega
 have bn:b<n0:=by omega
 replace WS:=hid (Nat.le_of_eq hn0)
 clear hn0 HS0
 have WC:=hid (rw_any HS.out)
 go_upto_region 2 with (go_at_call 40;with_reducible refine Calls.mono WC.out ?_;rintro e w2 ⟨rfl,b2⟩;replace HS:=hid (HS.out.next b2);replace HG:=hid (HG.out.below b2);replace HB:=hid (HB.out.next b2);replace WS:=hid (Nat.le_trans WS.out b2.size);clear b2 WC)
 have TK:=hid (rtake_any HS.out ⟨#[105,102]⟩)
 rw [tk_yes Y.out,Y.out] at TK
 go_upto_region 3 with (go_at_call 41;with_reducible refine Calls.mono TK.out ?_;rintro e w3 ⟨rfl,h3,g3⟩;replace HS:=hid h3;replace HG:=hid (HG.out.trans g3);replace HB:=hid (HB.out.gr g3 (by omega));replace WS:=hid (Nat.le_trans WS.out g3.size);clear h3 g3 TK)
 have EC:=hid (EH.out _ _ HS.out)
 rw [HA.out] at EC
 go_upto_region 4 with (go_at_call 45;with_reducible refine Calls.mono EC.out ?_;rintro e w4 h4;obtain ⟨g4,s4,sa4,sm4,sc4,rfl,nv4⟩:=h4.parts;have NV4:=hid nv4;replace HG:=hid (HG.out.trans g4);replace HB:=hid (HB.out.gr g4 (by omega));have WO4:=WS;replace WS:=hid (Nat.le_trans WS.out g4.size);replace HS:=hid s4;clear h4 g4 s4 nv4 EC)
 have BA:=hid (Bx.new (m:=n0) NV4.out WO4.out WS.out 31)
 have AL4:=hid (show Below w4.heap.size w4 (w4.alloc (.cells #[.string ra.1.op,.string ra.1.name,.int .i64 (ra.1.kind:Nat),.int .i64 ra.1.n,.int .i64 (ra.1.pl:Nat),.slice sa4 sm4 sc4] 31)) from (Below.refl _ _).alloc (Nat.le_refl _) _)
 replace HS:=hid (HS.out.next AL4.out)
 replace HG:=hid (HG.out.below AL4.out)
 replace HB:=hid (HB.out.next AL4.out)
 replace WS:=hid (Nat.le_trans WS.out AL4.out.size)
 have ge4:n0≤w4.heap.size:=BA.out.l
 clear AL4 NV4 WO4
 generalize World.alloc w4 _=y4 at *
 generalize w4.heap.size=bBA at *
 obtain ⟨BA0,BA1,BA2,BA3,BA4,BA5,_⟩:=BA.out.b
 have WT:=hid (rwant_any HS.out ⟨#[116,104,101,110]⟩)
 go_upto_region 5 with (go_at_call 44;with_reducible refine Calls.mono WT.out ?_;rintro e w5 ⟨rfl,h5,g5⟩;replace HS:=hid h5;replace HG:=hid (HG.out.trans g5);replace HB:=hid (HB.out.gr g5 (by omega));replace WS:=hid (Nat.le_trans WS.out g5.size);replace BA:=hid (BA.out.gr g5 pn);clear h5 g5 WT)
 have EC:=hid (EH.out _ _ HS.out)
 rw [HB1.out] at EC
 go_upto_region 6 with (go_at_call 45;with_reducible refine Calls.mono EC.out ?_;rintro e w6 h6;obtain ⟨g6,s6,sa6,sm6,sc6,rfl,nv6⟩:=h6.parts;have NV6:=hid nv6;replace HG:=hid (HG.out.trans g6);replace HB:=hid (HB.out.gr g6 (by omega));have WO6:=WS;replace WS:=hid (Nat.le_trans WS.out g6.size);replace HS:=hid s6;replace BA:=hid (BA.out.gr g6 pn);clear h6 g6 s6 nv6 EC)
 have BB:=hid (Bx.new (m:=n0) NV6.out WO6.out WS.out 31)
 have AL6:=hid (show Below w6.heap.size w6 (w6.alloc (.cells #[.string rb.1.op,.string rb.1.name,.int .i64 (rb.1.kind:Nat),.int .i64 rb.1.n,.int .i64 (rb.1.pl:Nat),.slice sa6 sm6 sc6] 31)) from (Below.refl _ _).alloc (Nat.le_refl _) _)
 replace HS:=hid (HS.out.next AL6.out)
 replace HG:=hid (HG.out.below AL6.out)
 replace HB:=hid (HB.out.next AL6.out)
 replace WS:=hid (Nat.le_trans WS.out AL6.out.size)
 replace BA:=hid (BA.out.next AL6.out)
 have ge6:n0≤w6.heap.size:=BB.out.l
 clear AL6 NV6 WO6
 generalize World.alloc w6 _=y6 at *
 generalize w6.heap.size=bBB at *
 obtain ⟨BB0,BB1,BB2,BB3,BB4,BB5,_⟩:=BB.out.b
 have WT:=hid (rwant_any HS.out ⟨#[101,108,115,101]⟩)
 go_upto_region 7 with (go_at_call 44;with_reducible refine Calls.mono WT.out ?_;rintro e w7 ⟨rfl,h7,g7⟩;replace HS:=hid h7;replace HG:=hid (HG.out.trans g7);replace HB:=hid (HB.out.gr g7 (by omega));replace WS:=hid (Nat.le_trans WS.out g7.size);replace BA:=hid (BA.out.gr g7 pn);replace BB:=hid (BB.out.gr g7 pn);clear h7 g7 WT)
 have EC:=hid (EH.out _ _ HS.out)
 rw [HC1.out] at EC
 go_upto_region 8 with (go_at_call 45;with_reducible refine Calls.mono EC.out ?_;rintro e w8 h8;obtain ⟨g8,s8,sa8,sm8,sc8,rfl,nv8⟩:=h8.parts;have NV8:=hid nv8;replace HG:=hid (HG.out.trans g8);replace HB:=hid (HB.out.gr g8 (by omega));have WO8:=WS;replace WS:=hid (Nat.le_trans WS.out g8.size);replace HS:=hid s8;replace BA:=hid (BA.out.gr g8 pn);replace BB:=hid (BB.out.gr g8 pn);clear h8 g8 s8 nv8 EC)
 have BC:=hid (Bx.new (m:=n0) NV8.out WO8.out WS.out 31)
 have AL8:=hid (show Below w8.heap.size w8 (w8.alloc (.cells #[.string rc.1.op,.string rc.1.name,.int .i64 (rc.1.kind:Nat),.int .i64 rc.1.n,.int .i64 (rc.1.pl:Nat),.slice sa8 sm8 sc8] 31)) from (Below.refl _ _).alloc (Nat.le_refl _) _)
 replace HS:=hid (HS.out.next AL8.out)
 replace HG:=hid (HG.out.below AL8.out)
 replace HB:=hid (HB.out.next AL8.out)
 replace WS:=hid (Nat.le_trans WS.out AL8.out.size)
 replace BA:=hid (BA.out.next AL8.out)
 replace BB:=hid (BB.out.next AL8.out)
 have ge8:n0≤w8.heap.size:=BC.out.l
 clear AL8 NV8 WO8
 generalize World.alloc w8 _=y8 at *
 generalize w8.heap.size=bBC at *
 obtain ⟨BC0,BC1,BC2,BC3,BC4,BC5,_⟩:=BC.out.b
 obtain ⟨u0,u1,u2,u3,u4,u5,uz⟩:=HB.out
 clear BA0 BA1 BA2 BA3 BA4 BA5
 obtain ⟨BA0,BA1,BA2,BA3,BA4,BA5,_⟩:=BA.out.b
 clear BB0 BB1 BB2 BB3 BB4 BB5
 obtain ⟨BB0,BB1,BB2,BB3,BB4,BB5,_⟩:=BB.out.b
 clear BC0 BC1 BC2 BC3 BC4 BC5
 obtain ⟨BC0,BC1,BC2,BC3,BC4,BC5,_⟩:=BC.out.b
 have HS7:=hid (show Below y8.heap.size y8 (y8.alloc (.cells #[.string ra.1.op,.string ra.1.name,.int .i64 (ra.1.kind:Nat),.int .i64 ra.1.n,.int .i64 (ra.1.pl:Nat),.slice sa4 sm4 sc4,.string rb.1.op,.string rb.1.name,.int .i64 (rb.1.kind:Nat),.int .i64 rb.1.n,.int .i64 (rb.1.pl:Nat),.slice sa6 sm6 sc6,.string rc.1.op,.string rc.1.name,.int .i64 (rc.1.kind:Nat),.int .i64 rc.1.n,.int .i64 (rc.1.pl:Nat),.slice sa8 sm8 sc8] 31)) from (Below.refl _ _).alloc (Nat.le_refl _) _)
 have ys:n0≤y8.heap.size:=WS.out
 have CBA:=hid (show NC (y8.alloc (.cells #[.string ra.1.op,.string ra.1.name,.int .i64 (ra.1.kind:Nat),.int .i64 ra.1.n,.int .i64 (ra.1.pl:Nat),.slice sa4 sm4 sc4,.string rb.1.op,.string rb.1.name,.int .i64 (rb.1.kind:Nat),.int .i64 rb.1.n,.int .i64 (rb.1.pl:Nat),.slice sa6 sm6 sc6,.string rc.1.op,.string rc.1.name,.int .i64 (rc.1.kind:Nat),.int .i64 rc.1.n,.int .i64 (rc.1.pl:Nat),.slice sa8 sm8 sc8] 31)) y8.heap.size 0 ra.1 (.slice sa4 sm4 sc4) from ⟨by simp,by simp,by simp,by simp,by simp,by simp⟩)
 have CBB:=hid (show NC (y8.alloc (.cells #[.string ra.1.op,.string ra.1.name,.int .i64 (ra.1.kind:Nat),.int .i64 ra.1.n,.int .i64 (ra.1.pl:Nat),.slice sa4 sm4 sc4,.string rb.1.op,.string rb.1.name,.int .i64 (rb.1.kind:Nat),.int .i64 rb.1.n,.int .i64 (rb.1.pl:Nat),.slice sa6 sm6 sc6,.string rc.1.op,.string rc.1.name,.int .i64 (rc.1.kind:Nat),.int .i64 rc.1.n,.int .i64 (rc.1.pl:Nat),.slice sa8 sm8 sc8] 31)) y8.heap.size 6 rb.1 (.slice sa6 sm6 sc6) from ⟨by simp,by simp,by simp,by simp,by simp,by simp⟩)
 have CBC:=hid (show NC (y8.alloc (.cells #[.string ra.1.op,.string ra.1.name,.int .i64 (ra.1.kind:Nat),.int .i64 ra.1.n,.int .i64 (ra.1.pl:Nat),.slice sa4 sm4 sc4,.string rb.1.op,.string rb.1.name,.int .i64 (rb.1.kind:Nat),.int .i64 rb.1.n,.int .i64 (rb.1.pl:Nat),.slice sa6 sm6 sc6,.string rc.1.op,.string rc.1.name,.int .i64 (rc.1.kind:Nat),.int .i64 rc.1.n,.int .i64 (rc.1.pl:Nat),.slice sa8 sm8 sc8] 31)) y8.heap.size 12 rc.1 (.slice sa8 sm8 sc8) from ⟨by simp,by simp,by simp,by simp,by simp,by simp⟩)
 have NN7:=hid (nd_three3 (c:=3) (S:=fun g=>n0≤g) ys CBA.out CBB.out CBC.out (BA.out.d.next HS7.out) (BB.out.d.next HS7.out) (BC.out.d.next HS7.out))
 replace HB:=hid (HB.out.next HS7.out)
 replace HS:=hid (HS.out.next HS7.out)
 replace HG:=hid (HG.out.below HS7.out)
 clear u0 u1 u2 u3 u4 u5 uz HS7 CBA CBB CBC
 obtain ⟨u0,u1,u2,u3,u4,u5,uz⟩:=HB.out
 have BF:=hid (HB.out.sets (.string ⟨#[105,102]⟩) (.string ⟨#[]⟩) (.int .i64 0) (.int .i64 0) (.int .i64 (aw s.l:Nat)) (.slice (some ⟨y8.heap.size,0,none⟩) 3 3))
 have SF:=hid (HS.out.put6 (q:=w.heap.size) (by omega) (by omega) (.string ⟨#[105,102]⟩) (.string ⟨#[]⟩) (.int .i64 0) (.int .i64 0) (.int .i64 (aw s.l:Nat)) (.slice (some ⟨y8.heap.size,0,none⟩) 3 3))
 have GF:=hid (HG.out.put6 (q:=w.heap.size) (by omega) (.string ⟨#[105,102]⟩) (.string ⟨#[]⟩) (.int .i64 0) (.int .i64 0) (.int .i64 (aw s.l:Nat)) (.slice (some ⟨y8.heap.size,0,none⟩) 3 3))
 have NF:=hid (Nd.put6x (q:=w.heap.size) (m:=w.heap.size) NN7.out wn (by omega) (.string ⟨#[105,102]⟩) (.string ⟨#[]⟩) (.int .i64 0) (.int .i64 0) (.int .i64 (aw s.l:Nat)) (.slice (some ⟨y8.heap.size,0,none⟩) 3 3))
 go_wp2_with fail
 generalize World.setCell _ ⟨w.heap.size,5,none⟩ _=wf at *
 obtain ⟨q0,q1,q2,q3,q4,q5,_⟩:=BF.out
 exact bodyPost_ret (v:=.agg #[.string ⟨#[105,102]⟩,.string ⟨#[]⟩,.int .i64 0,.int .i64 0,.int .i64 (aw s.l:Nat),.slice (some ⟨y8.heap.size,0,none⟩) 3 3]) (by simp [results,Tryd.results59,go_sem,q0,q1,q2,q3,q4,q5]) rfl ⟨GF.out,SF.out,_,rfl,_,rfl,NF.out⟩
set_option maxRecDepth 100000 in
set_option maxHeartbeats 4000000 in
theorem rins_row {w:World} {p b c:Nat} {ws:List Wo} {d:Nat} {s:Sp} (h:Sw w p b c ws d s) (y:s.is ⟨#[105,102]⟩=false) (r:Tr × Sp) (hR:∀ w,Sw w p b c ws d s→Calls Tryd.prog 71 #[.pointer (some ⟨p,0,none⟩),.int .i64 0] w fun e w'=>Rn w w' p b c ws d e r) :
  Calls Tryd.prog 59 #[.pointer (some ⟨p,0,none⟩)] w fun e w'=>Rn w w' p b c ws d e r:=by
 have pl0:=h.pl
 have bl0:=h.bl
 have HB:=hid (B6.new w 31 (.string ⟨#[]⟩) (.string ⟨#[]⟩) (.int .i64 0) (.int .i64 0) (.int .i64 0) (.slice none 0 0))
 have HS0:Hid (Below w.heap.size w (w.alloc (.cells #[.string ⟨#[]⟩,.string ⟨#[]⟩,.int .i64 0,.int .i64 0,.int .i64 0,.slice none 0 0] 31))):=(Below.refl _ _).alloc (Nat.le_refl _) _
 have HS:=hid (h.next HS0.out)
 have HG:=hid ((Gr.refl w p).below HS0.out)
 have WS:=hid (show w.heap.size<(w.alloc (.cells #[.string ⟨#[]⟩,.string ⟨#[]⟩,.int .i64 0,.int .i64 0,.int .i64 0,.slice none 0 0] 31)).heap.size from by simp)
 have f0:=fd0
 have f1:=fd1
 have f3:=fd3
 have Y:=hid y
 have RH:=hid hR
 clear h y hR
 go_enter Tryd.func59,Tryd.ntmps59
 go_upto_region 1 with fail
 generalize World.alloc w _=w1 at *
 obtain ⟨n0,hn0⟩:∃ n,n=w1.heap.size:=⟨_,rfl⟩
 have wn:w.heap.size<n0:=by rw [hn0];exact WS.out
 have pn:p<n0:=by omega
 have bn:b<n0:=by omega
 replace WS:=hid (Nat.le_of_eq hn0)
 clear hn0 HS0
 have WC:=hid (rw_any HS.out)
 go_upto_region 2 with (go_at_call 40;with_reducible refine Calls.mono WC.out ?_;rintro e w2 ⟨rfl,b2⟩;replace HS:=hid (HS.out.next b2);replace HG:=hid (HG.out.below b2);replace HB:=hid (HB.out.next b2);replace WS:=hid (Nat.le_trans WS.out b2.size);clear b2 WC)
 have TK:=hid (rtake_any HS.out ⟨#[105,102]⟩)
 rw [tk_no Y.out,Y.out] at TK
 go_upto_region 9 with (go_at_call 41;with_reducible refine Calls.mono TK.out ?_;rintro e w3 ⟨rfl,h3,g3⟩;replace HS:=hid h3;replace HG:=hid (HG.out.trans g3);replace HB:=hid (HB.out.gr g3 (by omega));replace WS:=hid (Nat.le_trans WS.out g3.size);clear h3 g3 TK)
 have PC:=hid (RH.out _ HS.out)
 go_wp2_with (go_at_call 71;with_reducible refine Calls.mono PC.out ?_;rintro e w9 h9;obtain ⟨g9,s9,sa9,sm9,sc9,rfl,nv9⟩:=h9.parts;have NV9:=hid nv9;replace HG:=hid (HG.out.trans g9);replace HB:=hid (HB.out.gr g9 (by omega));have WO9:=WS;replace WS:=hid (Nat.le_trans WS.out g9.size);replace HS:=hid s9;obtain ⟨u0,u1,u2,u3,u4,u5,uz⟩:=HB.out;have BF:=hid (HB.out.sets (.string r.1.op) (.string r.1.name) (.int .i64 (r.1.kind:Nat)) (.int .i64 r.1.n) (.int .i64 (r.1.pl:Nat)) (.slice sa9 sm9 sc9));have SF:=hid (HS.out.put6 (q:=w.heap.size) (by omega) (by omega) (.string r.1.op) (.string r.1.name) (.int .i64 (r.1.kind:Nat)) (.int .i64 r.1.n) (.int .i64 (r.1.pl:Nat)) (.slice sa9 sm9 sc9));have GF:=hid (HG.out.put6 (q:=w.heap.size) (by omega) (.string r.1.op) (.string r.1.name) (.int .i64 (r.1.kind:Nat)) (.int .i64 r.1.n) (.int .i64 (r.1.pl:Nat)) (.slice sa9 sm9 sc9));have NF:=hid (Nd.put6x (q:=w.heap.size) (m:=w.heap.size) NV9.out (Nat.lt_of_lt_of_le wn WO9.out) (Nat.le_of_lt (Nat.lt_of_lt_of_le wn WO9.out)) (.string r.1.op) (.string r.1.name) (.int .i64 (r.1.kind:Nat)) (.int .i64 r.1.n) (.int .i64 (r.1.pl:Nat)) (.slice sa9 sm9 sc9));clear h9 g9 s9 nv9 PC)
 generalize World.setCell _ ⟨w.heap.size,5,none⟩ _=wf at *
 obtain ⟨q0,q1,q2,q3,q4,q5,_⟩:=BF.out
 exact bodyPost_ret (v:=.agg #[.string r.1.op,.string r.1.name,.int .i64 (r.1.kind:Nat),.int .i64 r.1.n,.int .i64 (r.1.pl:Nat),.slice sa9 sm9 sc9]) (by simp [results,Tryd.results59,go_sem,q0,q1,q2,q3,q4,q5]) rfl ⟨GF.out,SF.out,_,rfl,_,rfl,NF.out⟩
set_option maxRecDepth 100000 in
set_option maxHeartbeats 4000000 in
theorem rlit_no {w:World} {p b c:Nat} {ws:List Wo} {d:Nat} {s:Sp} (h:Sw w p b c ws d s) (y:s.islit=false) :
  Calls Tryd.prog 48 #[.pointer (some ⟨p,0,none⟩)] w fun e w'=>Rn w w' p b c ws d e (Tr.zero,s.fail):=by
 have pl0:=h.pl
 have bl0:=h.bl
 have HB:=hid (B6.new w 31 (.string ⟨#[]⟩) (.string ⟨#[]⟩) (.int .i64 0) (.int .i64 0) (.int .i64 0) (.slice none 0 0))
 have HS0:Hid (Below w.heap.size w (w.alloc (.cells #[.string ⟨#[]⟩,.string ⟨#[]⟩,.int .i64 0,.int .i64 0,.int .i64 0,.slice none 0 0] 31))):=(Below.refl _ _).alloc (Nat.le_refl _) _
 have HS:=hid (h.next HS0.out)
 have HG:=hid ((Gr.refl w p).below HS0.out)
 have WS:=hid (show w.heap.size<(w.alloc (.cells #[.string ⟨#[]⟩,.string ⟨#[]⟩,.int .i64 0,.int .i64 0,.int .i64 0,.slice none 0 0] 31)).heap.size from by simp)
 have f0:=fd0
 have f1:=fd1
 have f3:=fd3
 have Y:=hid y
 clear h y
 go_enter Tryd.func48,Tryd.ntmps48
 go_upto_region 1 with fail
 generalize World.alloc w _=w1 at *
 obtain ⟨n0,hn0⟩:∃ n,n=w1.heap.size:=⟨_,rfl⟩
 have wn:w.heap.size<n0:=by rw [hn0];exact WS.out
 have pn:p<n0:=by omega
 have bn:b<n0:=by omega
 replace WS:=hid (Nat.le_of_eq hn0)
 clear hn0 HS0
 have IC:=hid (rislit_any HS.out)
 rw [Y.out] at IC
 go_upto_region 2 with (go_at_call 61;with_reducible refine Calls.mono IC.out ?_;rintro e w2 ⟨rfl,b2⟩;replace HS:=hid (HS.out.next b2);replace HG:=hid (HG.out.below b2);replace HB:=hid (HB.out.next b2);replace WS:=hid (Nat.le_trans WS.out b2.size);clear b2 IC)
 have FC:=hid (rfail_any HS.out)
 go_upto_region 3 with (go_at_call 49;with_reducible refine Calls.mono FC.out ?_;rintro e w3 ⟨rfl,h3,g3⟩;replace HS:=hid h3;replace HG:=hid (HG.out.trans g3);replace HB:=hid (HB.out.gr g3 (by omega));replace WS:=hid (Nat.le_trans WS.out g3.size);clear h3 g3 FC)
 obtain ⟨u0,u1,u2,u3,u4,u5,uz⟩:=HB.out
 have BF:=hid (HB.out.sets (.string ⟨#[]⟩) (.string ⟨#[]⟩) (.int .i64 0) (.int .i64 0) (.int .i64 0) (.slice none 0 0))
 have SF:=hid (HS.out.put6 (q:=w.heap.size) (by omega) (by omega) (.string ⟨#[]⟩) (.string ⟨#[]⟩) (.int .i64 0) (.int .i64 0) (.int .i64 0) (.slice none 0 0))
 have GF:=hid (HG.out.put6 (q:=w.heap.size) (by omega) (.string ⟨#[]⟩) (.string ⟨#[]⟩) (.int .i64 0) (.int .i64 0) (.int .i64 0) (.slice none 0 0))
 go_wp2
 generalize World.setCell _ ⟨w.heap.size,5,none⟩ _=wf at *
 obtain ⟨q0,q1,q2,q3,q4,q5,_⟩:=BF.out
 exact bodyPost_ret (v:=.agg #[.string ⟨#[]⟩,.string ⟨#[]⟩,.int .i64 0,.int .i64 0,.int .i64 0,.slice none 0 0]) (by simp [results,Tryd.results48,go_sem,q0,q1,q2,q3,q4,q5]) rfl ⟨GF.out,SF.out,_,rfl,_,rfl,.nil⟩
set_option maxRecDepth 100000 in
set_option maxHeartbeats 4000000 in
theorem rlit_3 {w:World} {p b c:Nat} {ws:List Wo} {d:Nat} {s:Sp} (h:Sw w p b c ws d s) (y:s.islit=true) (k0:kw s.l≠0) (q:kw s.l=3) :
  Calls Tryd.prog 48 #[.pointer (some ⟨p,0,none⟩)] w fun e w'=>Rn w w' p b c ws d e (.nd ⟨#[108,105,116]⟩ ⟨#[]⟩ 2 (nw s.l:Nat) (aw s.l) [],s.nx):=by
 have pl0:=h.pl
 have bl0:=h.bl
 have HB:=hid (B6.new w 31 (.string ⟨#[]⟩) (.string ⟨#[]⟩) (.int .i64 0) (.int .i64 0) (.int .i64 0) (.slice none 0 0))
 have HS0:Hid (Below w.heap.size w (w.alloc (.cells #[.string ⟨#[]⟩,.string ⟨#[]⟩,.int .i64 0,.int .i64 0,.int .i64 0,.slice none 0 0] 31))):=(Below.refl _ _).alloc (Nat.le_refl _) _
 have HS:=hid (h.next HS0.out)
 have HG:=hid ((Gr.refl w p).below HS0.out)
 have WS:=hid (show w.heap.size<(w.alloc (.cells #[.string ⟨#[]⟩,.string ⟨#[]⟩,.int .i64 0,.int .i64 0,.int .i64 0,.slice none 0 0] 31)).heap.size from by simp)
 have f0:=fd0
 have f1:=fd1
 have f3:=fd3
 have QH:=hid q
 clear q
 have Y:=hid y
 have K0:=hid k0
 clear h y k0
 go_enter Tryd.func48,Tryd.ntmps48
 go_upto_region 1 with fail
 generalize World.alloc w _=w1 at *
 obtain ⟨n0,hn0⟩:∃ n,n=w1.heap.size:=⟨_,rfl⟩
 have wn:w.heap.size<n0:=by rw [hn0];exact WS.out
 have pn:p<n0:=by omega
 have bn:b<n0:=by omega
 replace WS:=hid (Nat.le_of_eq hn0)
 clear hn0 HS0
 have IC:=hid (rislit_any HS.out)
 rw [Y.out] at IC
 go_upto_region 4 with (go_at_call 61;with_reducible refine Calls.mono IC.out ?_;rintro e w2 ⟨rfl,b2⟩;replace HS:=hid (HS.out.next b2);replace HG:=hid (HG.out.below b2);replace HB:=hid (HB.out.next b2);replace WS:=hid (Nat.le_trans WS.out b2.size);clear b2 IC)
 have WC:=hid (rw_any HS.out)
 rw [QH.out] at WC
 go_upto_region 5 with (go_at_call 40;with_reducible refine Calls.mono WC.out ?_;rintro e w3 ⟨rfl,b3⟩;replace HS:=hid (HS.out.next b3);replace HG:=hid (HG.out.below b3);replace HB:=hid (HB.out.next b3);replace WS:=hid (Nat.le_trans WS.out b3.size);clear b3 WC)
 have AL:=hid (show Below w3.heap.size w3 (w3.alloc (.cells #[.int .i64 3,.string (tw s.l),.int .i64 (nw s.l:Nat),.int .i64 (aw s.l:Nat)] 58)) from (Below.refl _ _).alloc (Nat.le_refl _) _)
 have XN:=hid (X4.new w3 58 (.int .i64 3) (.string (tw s.l)) (.int .i64 (nw s.l:Nat)) (.int .i64 (aw s.l:Nat)))
 have xs:n0≤w3.heap.size:=WS.out
 replace HS:=hid (HS.out.next AL.out)
 replace HG:=hid (HG.out.below AL.out)
 replace HB:=hid (HB.out.next AL.out)
 replace WS:=hid (Nat.le_trans WS.out AL.out.size)
 clear AL
 generalize World.alloc w3 _=y3 at *
 generalize w3.heap.size=bx at *
 obtain ⟨k,k9,el,q,hk,et⟩:=HS.out.mv K0.out
 have g1:=q.c1
 have z1:=q.fz 1
 have ET:=hid et
 have Q:=hid (q.step hk)
 have xp:bx≠p:=by omega
 have xq:p≠bx:=by omega
 obtain ⟨x0,x1,x2,x3,_,_,_⟩:=XN.out
 have X0:=hid ((cell_ne (w:=y3) (i:=1) (u:=.int .i64 ((k:Int)+1)) (fun e=>xq e.1)).trans x0)
 have X1:=hid ((cell_ne (w:=y3) (i:=1) (u:=.int .i64 ((k:Int)+1)) (fun e=>xq e.1)).trans x1)
 have X2:=hid ((cell_ne (w:=y3) (i:=1) (u:=.int .i64 ((k:Int)+1)) (fun e=>xq e.1)).trans x2)
 have X3:=hid ((cell_ne (w:=y3) (i:=1) (u:=.int .i64 ((k:Int)+1)) (fun e=>xq e.1)).trans x3)
 replace HG:=hid (HG.out.set (i:=1) (.int .i64 ((k:Int)+1)))
 replace HB:=hid (HB.out.put (q:=p) (i:=1) (by omega) (.int .i64 ((k:Int)+1)))
 replace WS:=hid (show n0≤(y3.setCell ⟨p,1,none⟩ (.int .i64 ((k:Int)+1))).heap.size from by simpa using WS.out)
 clear x0 x1 x2 x3 q el et hk HS XN
 go_upto_region 6 with fail
 generalize World.setCell y3 _ _=w5 at *
 clear g1 z1
 have HS:Hid (Sw w5 p b c ws d s.nx):=⟨k+1,ET.out,Q.out⟩
 clear Q ET
 have x0:=X0.out
 have x1:=X1.out
 have x2:=X2.out
 have x3:=X3.out
 clear X0 X1 X2 X3
 go_upto_region 7 with fail
 have AL:=hid (show Below w5.heap.size w5 (w5.alloc (.cells #[.string ⟨#[108,105,116]⟩,.string ⟨#[]⟩,.int .i64 0,.int .i64 (nw s.l:Nat),.int .i64 (aw s.l:Nat),.slice none 0 0] 31)) from (Below.refl _ _).alloc (Nat.le_refl _) _)
 have BN:=hid (B6.new w5 31 (.string ⟨#[108,105,116]⟩) (.string ⟨#[]⟩) (.int .i64 0) (.int .i64 (nw s.l:Nat)) (.int .i64 (aw s.l:Nat)) (.slice none 0 0))
 have ns:n0≤w5.heap.size:=WS.out
 have x0:(w5.alloc (.cells #[.string ⟨#[108,105,116]⟩,.string ⟨#[]⟩,.int .i64 0,.int .i64 (nw s.l:Nat),.int .i64 (aw s.l:Nat),.slice none 0 0] 31)).cell? ⟨bx,0,none⟩=_:=(AL.out.cell (p:=⟨bx,0,none⟩) (World.block_lt_of_cell? _ _ x0)).trans x0
 have x1:(w5.alloc (.cells #[.string ⟨#[108,105,116]⟩,.string ⟨#[]⟩,.int .i64 0,.int .i64 (nw s.l:Nat),.int .i64 (aw s.l:Nat),.slice none 0 0] 31)).cell? ⟨bx,1,none⟩=_:=(AL.out.cell (p:=⟨bx,1,none⟩) (World.block_lt_of_cell? _ _ x1)).trans x1
 have x2:(w5.alloc (.cells #[.string ⟨#[108,105,116]⟩,.string ⟨#[]⟩,.int .i64 0,.int .i64 (nw s.l:Nat),.int .i64 (aw s.l:Nat),.slice none 0 0] 31)).cell? ⟨bx,2,none⟩=_:=(AL.out.cell (p:=⟨bx,2,none⟩) (World.block_lt_of_cell? _ _ x2)).trans x2
 have x3:(w5.alloc (.cells #[.string ⟨#[108,105,116]⟩,.string ⟨#[]⟩,.int .i64 0,.int .i64 (nw s.l:Nat),.int .i64 (aw s.l:Nat),.slice none 0 0] 31)).cell? ⟨bx,3,none⟩=_:=(AL.out.cell (p:=⟨bx,3,none⟩) (World.block_lt_of_cell? _ _ x3)).trans x3
 replace HS:=hid (HS.out.next AL.out)
 replace HG:=hid (HG.out.below AL.out)
 replace HB:=hid (HB.out.next AL.out)
 have bl:bx<w5.heap.size:=by have:=World.block_lt_of_cell? _ _ (by assumption:w5.cell? ⟨bx,0,none⟩=_);exact this
 clear AL WS
 generalize World.alloc w5 _=w6 at *
 generalize w5.heap.size=bn at *
 have gw:¬ w.heap.size=bn:=by omega
 have gw':¬ bn=w.heap.size:=by omega
 have gx:¬ bx=bn:=by omega
 have gx':¬ bn=bx:=by omega
 obtain ⟨m0,m1,m2,m3,m4,m5,mz⟩:=BN.out
 obtain ⟨u0,u1,u2,u3,u4,u5,uz⟩:=HB.out
 replace HS:=hid (HS.out.put (q:=bn) (i:=2) (by omega) (by omega) (.int .i64 2))
 replace HG:=hid (HG.out.put (q:=bn) (i:=2) (by omega) (.int .i64 2))
 replace HB:=hid (HB.out.put (q:=bn) (i:=2) (by omega) (.int .i64 2))
 have BF:=hid (HB.out.sets (.string ⟨#[108,105,116]⟩) (.string ⟨#[]⟩) (.int .i64 2) (.int .i64 (nw s.l:Nat)) (.int .i64 (aw s.l:Nat)) (.slice none 0 0))
 have SF:=hid (HS.out.put6 (q:=w.heap.size) (by omega) (by omega) (.string ⟨#[108,105,116]⟩) (.string ⟨#[]⟩) (.int .i64 2) (.int .i64 (nw s.l:Nat)) (.int .i64 (aw s.l:Nat)) (.slice none 0 0))
 have GF:=hid (HG.out.put6 (q:=w.heap.size) (by omega) (.string ⟨#[108,105,116]⟩) (.string ⟨#[]⟩) (.int .i64 2) (.int .i64 (nw s.l:Nat)) (.int .i64 (aw s.l:Nat)) (.slice none 0 0))
 go_wp2_with fail
 generalize World.setCell _ ⟨w.heap.size,5,none⟩ _=wf at *
 obtain ⟨q0,q1,q2,q3,q4,q5,_⟩:=BF.out
 exact bodyPost_ret (v:=.agg #[.string ⟨#[108,105,116]⟩,.string ⟨#[]⟩,.int .i64 2,.int .i64 (nw s.l:Nat),.int .i64 (aw s.l:Nat),.slice none 0 0]) (by simp [results,Tryd.results48,go_sem,q0,q1,q2,q3,q4,q5]) rfl ⟨GF.out,SF.out,_,rfl,_,rfl,.nil⟩
set_option maxRecDepth 100000 in
set_option maxHeartbeats 4000000 in
theorem rlit_4 {w:World} {p b c:Nat} {ws:List Wo} {d:Nat} {s:Sp} (h:Sw w p b c ws d s) (y:s.islit=true) (k0:kw s.l≠0) (q:kw s.l=4) :
  Calls Tryd.prog 48 #[.pointer (some ⟨p,0,none⟩)] w fun e w'=>Rn w w' p b c ws d e (.nd ⟨#[108,105,116]⟩ ⟨#[]⟩ 3 (nw s.l:Nat) (aw s.l) [],s.nx):=by
 have pl0:=h.pl
 have bl0:=h.bl
 have HB:=hid (B6.new w 31 (.string ⟨#[]⟩) (.string ⟨#[]⟩) (.int .i64 0) (.int .i64 0) (.int .i64 0) (.slice none 0 0))
 have HS0:Hid (Below w.heap.size w (w.alloc (.cells #[.string ⟨#[]⟩,.string ⟨#[]⟩,.int .i64 0,.int .i64 0,.int .i64 0,.slice none 0 0] 31))):=(Below.refl _ _).alloc (Nat.le_refl _) _
 have HS:=hid (h.next HS0.out)
 have HG:=hid ((Gr.refl w p).below HS0.out)
 have WS:=hid (show w.heap.size<(w.alloc (.cells #[.string ⟨#[]⟩,.string ⟨#[]⟩,.int .i64 0,.int .i64 0,.int .i64 0,.slice none 0 0] 31)).heap.size from by simp)
 have f0:=fd0
 have f1:=fd1
 have f3:=fd3
 have QH:=hid q
 clear q
 have Y:=hid y
 have K0:=hid k0
 clear h y k0
 go_enter Tryd.func48,Tryd.ntmps48
 go_upto_region 1 with fail
 generalize World.alloc w _=w1 at *
 obtain ⟨n0,hn0⟩:∃ n,n=w1.heap.size:=⟨_,rfl⟩
 have wn:w.heap.size<n0:=by rw [hn0];exact WS.out
 have pn:p<n0:=by omega
 have bn:b<n0:=by omega
 replace WS:=hid (Nat.le_of_eq hn0)
 clear hn0 HS0
 have IC:=hid (rislit_any HS.out)
 rw [Y.out] at IC
 go_upto_region 4 with (go_at_call 61;with_reducible refine Calls.mono IC.out ?_;rintro e w2 ⟨rfl,b2⟩;replace HS:=hid (HS.out.next b2);replace HG:=hid (HG.out.below b2);replace HB:=hid (HB.out.next b2);replace WS:=hid (Nat.le_trans WS.out b2.size);clear b2 IC)
 have WC:=hid (rw_any HS.out)
 rw [QH.out] at WC
 go_upto_region 5 with (go_at_call 40;with_reducible refine Calls.mono WC.out ?_;rintro e w3 ⟨rfl,b3⟩;replace HS:=hid (HS.out.next b3);replace HG:=hid (HG.out.below b3);replace HB:=hid (HB.out.next b3);replace WS:=hid (Nat.le_trans WS.out b3.size);clear b3 WC)
 have AL:=hid (show Below w3.heap.size w3 (w3.alloc (.cells #[.int .i64 4,.string (tw s.l),.int .i64 (nw s.l:Nat),.int .i64 (aw s.l:Nat)] 58)) from (Below.refl _ _).alloc (Nat.le_refl _) _)
 have XN:=hid (X4.new w3 58 (.int .i64 4) (.string (tw s.l)) (.int .i64 (nw s.l:Nat)) (.int .i64 (aw s.l:Nat)))
 have xs:n0≤w3.heap.size:=WS.out
 replace HS:=hid (HS.out.next AL.out)
 replace HG:=hid (HG.out.below AL.out)
 replace HB:=hid (HB.out.next AL.out)
 replace WS:=hid (Nat.le_trans WS.out AL.out.size)
 clear AL
 generalize World.alloc w3 _=y3 at *
 generalize w3.heap.size=bx at *
 obtain ⟨k,k9,el,q,hk,et⟩:=HS.out.mv K0.out
 have g1:=q.c1
 have z1:=q.fz 1
 have ET:=hid et
 have Q:=hid (q.step hk)
 have xp:bx≠p:=by omega
 have xq:p≠bx:=by omega
 obtain ⟨x0,x1,x2,x3,_,_,_⟩:=XN.out
 have X0:=hid ((cell_ne (w:=y3) (i:=1) (u:=.int .i64 ((k:Int)+1)) (fun e=>xq e.1)).trans x0)
 have X1:=hid ((cell_ne (w:=y3) (i:=1) (u:=.int .i64 ((k:Int)+1)) (fun e=>xq e.1)).trans x1)
 have X2:=hid ((cell_ne (w:=y3) (i:=1) (u:=.int .i64 ((k:Int)+1)) (fun e=>xq e.1)).trans x2)
 have X3:=hid ((cell_ne (w:=y3) (i:=1) (u:=.int .i64 ((k:Int)+1)) (fun e=>xq e.1)).trans x3)
 replace HG:=hid (HG.out.set (i:=1) (.int .i64 ((k:Int)+1)))
 replace HB:=hid (HB.out.put (q:=p) (i:=1) (by omega) (.int .i64 ((k:Int)+1)))
 replace WS:=hid (show n0≤(y3.setCell ⟨p,1,none⟩ (.int .i64 ((k:Int)+1))).heap.size from by simpa using WS.out)
 clear x0 x1 x2 x3 q el et hk HS XN
 go_upto_region 6 with fail
 generalize World.setCell y3 _ _=w5 at *
 clear g1 z1
 have HS:Hid (Sw w5 p b c ws d s.nx):=⟨k+1,ET.out,Q.out⟩
 clear Q ET
 have x0:=X0.out
 have x1:=X1.out
 have x2:=X2.out
 have x3:=X3.out
 clear X0 X1 X2 X3
 go_upto_region 7 with fail
 have AL:=hid (show Below w5.heap.size w5 (w5.alloc (.cells #[.string ⟨#[108,105,116]⟩,.string ⟨#[]⟩,.int .i64 0,.int .i64 (nw s.l:Nat),.int .i64 (aw s.l:Nat),.slice none 0 0] 31)) from (Below.refl _ _).alloc (Nat.le_refl _) _)
 have BN:=hid (B6.new w5 31 (.string ⟨#[108,105,116]⟩) (.string ⟨#[]⟩) (.int .i64 0) (.int .i64 (nw s.l:Nat)) (.int .i64 (aw s.l:Nat)) (.slice none 0 0))
 have ns:n0≤w5.heap.size:=WS.out
 have x0:(w5.alloc (.cells #[.string ⟨#[108,105,116]⟩,.string ⟨#[]⟩,.int .i64 0,.int .i64 (nw s.l:Nat),.int .i64 (aw s.l:Nat),.slice none 0 0] 31)).cell? ⟨bx,0,none⟩=_:=(AL.out.cell (p:=⟨bx,0,none⟩) (World.block_lt_of_cell? _ _ x0)).trans x0
 have x1:(w5.alloc (.cells #[.string ⟨#[108,105,116]⟩,.string ⟨#[]⟩,.int .i64 0,.int .i64 (nw s.l:Nat),.int .i64 (aw s.l:Nat),.slice none 0 0] 31)).cell? ⟨bx,1,none⟩=_:=(AL.out.cell (p:=⟨bx,1,none⟩) (World.block_lt_of_cell? _ _ x1)).trans x1
 have x2:(w5.alloc (.cells #[.string ⟨#[108,105,116]⟩,.string ⟨#[]⟩,.int .i64 0,.int .i64 (nw s.l:Nat),.int .i64 (aw s.l:Nat),.slice none 0 0] 31)).cell? ⟨bx,2,none⟩=_:=(AL.out.cell (p:=⟨bx,2,none⟩) (World.block_lt_of_cell? _ _ x2)).trans x2
 have x3:(w5.alloc (.cells #[.string ⟨#[108,105,116]⟩,.string ⟨#[]⟩,.int .i64 0,.int .i64 (nw s.l:Nat),.int .i64 (aw s.l:Nat),.slice none 0 0] 31)).cell? ⟨bx,3,none⟩=_:=(AL.out.cell (p:=⟨bx,3,none⟩) (World.block_lt_of_cell? _ _ x3)).trans x3
 replace HS:=hid (HS.out.next AL.out)
 replace HG:=hid (HG.out.below AL.out)
 replace HB:=hid (HB.out.next AL.out)
 have bl:bx<w5.heap.size:=by have:=World.block_lt_of_cell? _ _ (by assumption:w5.cell? ⟨bx,0,none⟩=_);exact this
 clear AL WS
 generalize World.alloc w5 _=w6 at *
 generalize w5.heap.size=bn at *
 have gw:¬ w.heap.size=bn:=by omega
 have gw':¬ bn=w.heap.size:=by omega
 have gx:¬ bx=bn:=by omega
 have gx':¬ bn=bx:=by omega
 obtain ⟨m0,m1,m2,m3,m4,m5,mz⟩:=BN.out
 obtain ⟨u0,u1,u2,u3,u4,u5,uz⟩:=HB.out
 replace HS:=hid (HS.out.put (q:=bn) (i:=2) (by omega) (by omega) (.int .i64 3))
 replace HG:=hid (HG.out.put (q:=bn) (i:=2) (by omega) (.int .i64 3))
 replace HB:=hid (HB.out.put (q:=bn) (i:=2) (by omega) (.int .i64 3))
 have BF:=hid (HB.out.sets (.string ⟨#[108,105,116]⟩) (.string ⟨#[]⟩) (.int .i64 3) (.int .i64 (nw s.l:Nat)) (.int .i64 (aw s.l:Nat)) (.slice none 0 0))
 have SF:=hid (HS.out.put6 (q:=w.heap.size) (by omega) (by omega) (.string ⟨#[108,105,116]⟩) (.string ⟨#[]⟩) (.int .i64 3) (.int .i64 (nw s.l:Nat)) (.int .i64 (aw s.l:Nat)) (.slice none 0 0))
 have GF:=hid (HG.out.put6 (q:=w.heap.size) (by omega) (.string ⟨#[108,105,116]⟩) (.string ⟨#[]⟩) (.int .i64 3) (.int .i64 (nw s.l:Nat)) (.int .i64 (aw s.l:Nat)) (.slice none 0 0))
 go_wp2_with fail
 generalize World.setCell _ ⟨w.heap.size,5,none⟩ _=wf at *
 obtain ⟨q0,q1,q2,q3,q4,q5,_⟩:=BF.out
 exact bodyPost_ret (v:=.agg #[.string ⟨#[108,105,116]⟩,.string ⟨#[]⟩,.int .i64 3,.int .i64 (nw s.l:Nat),.int .i64 (aw s.l:Nat),.slice none 0 0]) (by simp [results,Tryd.results48,go_sem,q0,q1,q2,q3,q4,q5]) rfl ⟨GF.out,SF.out,_,rfl,_,rfl,.nil⟩
set_option maxRecDepth 100000 in
set_option maxHeartbeats 4000000 in
theorem rlit_5 {w:World} {p b c:Nat} {ws:List Wo} {d:Nat} {s:Sp} (h:Sw w p b c ws d s) (y:s.islit=true) (k0:kw s.l≠0) (q:kw s.l=5) :
  Calls Tryd.prog 48 #[.pointer (some ⟨p,0,none⟩)] w fun e w'=>Rn w w' p b c ws d e (.nd ⟨#[108,105,116]⟩ ⟨#[]⟩ 4 (nw s.l:Nat) (aw s.l) [],s.nx):=by
 have pl0:=h.pl
 have bl0:=h.bl
 have HB:=hid (B6.new w 31 (.string ⟨#[]⟩) (.string ⟨#[]⟩) (.int .i64 0) (.int .i64 0) (.int .i64 0) (.slice none 0 0))
 have HS0:Hid (Below w.heap.size w (w.alloc (.cells #[.string ⟨#[]⟩,.string ⟨#[]⟩,.int .i64 0,.int .i64 0,.int .i64 0,.slice none 0 0] 31))):=(Below.refl _ _).alloc (Nat.le_refl _) _
 have HS:=hid (h.next HS0.out)
 have HG:=hid ((Gr.refl w p).below HS0.out)
 have WS:=hid (show w.heap.size<(w.alloc (.cells #[.string ⟨#[]⟩,.string ⟨#[]⟩,.int .i64 0,.int .i64 0,.int .i64 0,.slice none 0 0] 31)).heap.size from by simp)
 have f0:=fd0
 have f1:=fd1
 have f3:=fd3
 have QH:=hid q
 clear q
 have Y:=hid y
 have K0:=hid k0
 clear h y k0
 go_enter Tryd.func48,Tryd.ntmps48
 go_upto_region 1 with fail
 generalize World.alloc w _=w1 at *
 obtain ⟨n0,hn0⟩:∃ n,n=w1.heap.size:=⟨_,rfl⟩
 have wn:w.heap.size<n0:=by rw [hn0];exact WS.out
 have pn:p<n0:=by omega
 have bn:b<n0:=by omega
 replace WS:=hid (Nat.le_of_eq hn0)
 clear hn0 HS0
 have IC:=hid (rislit_any HS.out)
 rw [Y.out] at IC
 go_upto_region 4 with (go_at_call 61;with_reducible refine Calls.mono IC.out ?_;rintro e w2 ⟨rfl,b2⟩;replace HS:=hid (HS.out.next b2);replace HG:=hid (HG.out.below b2);replace HB:=hid (HB.out.next b2);replace WS:=hid (Nat.le_trans WS.out b2.size);clear b2 IC)
 have WC:=hid (rw_any HS.out)
 rw [QH.out] at WC
 go_upto_region 5 with (go_at_call 40;with_reducible refine Calls.mono WC.out ?_;rintro e w3 ⟨rfl,b3⟩;replace HS:=hid (HS.out.next b3);replace HG:=hid (HG.out.below b3);replace HB:=hid (HB.out.next b3);replace WS:=hid (Nat.le_trans WS.out b3.size);clear b3 WC)
 have AL:=hid (show Below w3.heap.size w3 (w3.alloc (.cells #[.int .i64 5,.string (tw s.l),.int .i64 (nw s.l:Nat),.int .i64 (aw s.l:Nat)] 58)) from (Below.refl _ _).alloc (Nat.le_refl _) _)
 have XN:=hid (X4.new w3 58 (.int .i64 5) (.string (tw s.l)) (.int .i64 (nw s.l:Nat)) (.int .i64 (aw s.l:Nat)))
 have xs:n0≤w3.heap.size:=WS.out
 replace HS:=hid (HS.out.next AL.out)
 replace HG:=hid (HG.out.below AL.out)
 replace HB:=hid (HB.out.next AL.out)
 replace WS:=hid (Nat.le_trans WS.out AL.out.size)
 clear AL
 generalize World.alloc w3 _=y3 at *
 generalize w3.heap.size=bx at *
 obtain ⟨k,k9,el,q,hk,et⟩:=HS.out.mv K0.out
 have g1:=q.c1
 have z1:=q.fz 1
 have ET:=hid et
 have Q:=hid (q.step hk)
 have xp:bx≠p:=by omega
 have xq:p≠bx:=by omega
 obtain ⟨x0,x1,x2,x3,_,_,_⟩:=XN.out
 have X0:=hid ((cell_ne (w:=y3) (i:=1) (u:=.int .i64 ((k:Int)+1)) (fun e=>xq e.1)).trans x0)
 have X1:=hid ((cell_ne (w:=y3) (i:=1) (u:=.int .i64 ((k:Int)+1)) (fun e=>xq e.1)).trans x1)
 have X2:=hid ((cell_ne (w:=y3) (i:=1) (u:=.int .i64 ((k:Int)+1)) (fun e=>xq e.1)).trans x2)
 have X3:=hid ((cell_ne (w:=y3) (i:=1) (u:=.int .i64 ((k:Int)+1)) (fun e=>xq e.1)).trans x3)
 replace HG:=hid (HG.out.set (i:=1) (.int .i64 ((k:Int)+1)))
 replace HB:=hid (HB.out.put (q:=p) (i:=1) (by omega) (.int .i64 ((k:Int)+1)))
 replace WS:=hid (show n0≤(y3.setCell ⟨p,1,none⟩ (.int .i64 ((k:Int)+1))).heap.size from by simpa using WS.out)
 clear x0 x1 x2 x3 q el et hk HS XN
 go_upto_region 6 with fail
 generalize World.setCell y3 _ _=w5 at *
 clear g1 z1
 have HS:Hid (Sw w5 p b c ws d s.nx):=⟨k+1,ET.out,Q.out⟩
 clear Q ET
 have x0:=X0.out
 have x1:=X1.out
 have x2:=X2.out
 have x3:=X3.out
 clear X0 X1 X2 X3
 go_upto_region 7 with fail
 have AL:=hid (show Below w5.heap.size w5 (w5.alloc (.cells #[.string ⟨#[108,105,116]⟩,.string ⟨#[]⟩,.int .i64 0,.int .i64 (nw s.l:Nat),.int .i64 (aw s.l:Nat),.slice none 0 0] 31)) from (Below.refl _ _).alloc (Nat.le_refl _) _)
 have BN:=hid (B6.new w5 31 (.string ⟨#[108,105,116]⟩) (.string ⟨#[]⟩) (.int .i64 0) (.int .i64 (nw s.l:Nat)) (.int .i64 (aw s.l:Nat)) (.slice none 0 0))
 have ns:n0≤w5.heap.size:=WS.out
 have x0:(w5.alloc (.cells #[.string ⟨#[108,105,116]⟩,.string ⟨#[]⟩,.int .i64 0,.int .i64 (nw s.l:Nat),.int .i64 (aw s.l:Nat),.slice none 0 0] 31)).cell? ⟨bx,0,none⟩=_:=(AL.out.cell (p:=⟨bx,0,none⟩) (World.block_lt_of_cell? _ _ x0)).trans x0
 have x1:(w5.alloc (.cells #[.string ⟨#[108,105,116]⟩,.string ⟨#[]⟩,.int .i64 0,.int .i64 (nw s.l:Nat),.int .i64 (aw s.l:Nat),.slice none 0 0] 31)).cell? ⟨bx,1,none⟩=_:=(AL.out.cell (p:=⟨bx,1,none⟩) (World.block_lt_of_cell? _ _ x1)).trans x1
 have x2:(w5.alloc (.cells #[.string ⟨#[108,105,116]⟩,.string ⟨#[]⟩,.int .i64 0,.int .i64 (nw s.l:Nat),.int .i64 (aw s.l:Nat),.slice none 0 0] 31)).cell? ⟨bx,2,none⟩=_:=(AL.out.cell (p:=⟨bx,2,none⟩) (World.block_lt_of_cell? _ _ x2)).trans x2
 have x3:(w5.alloc (.cells #[.string ⟨#[108,105,116]⟩,.string ⟨#[]⟩,.int .i64 0,.int .i64 (nw s.l:Nat),.int .i64 (aw s.l:Nat),.slice none 0 0] 31)).cell? ⟨bx,3,none⟩=_:=(AL.out.cell (p:=⟨bx,3,none⟩) (World.block_lt_of_cell? _ _ x3)).trans x3
 replace HS:=hid (HS.out.next AL.out)
 replace HG:=hid (HG.out.below AL.out)
 replace HB:=hid (HB.out.next AL.out)
 have bl:bx<w5.heap.size:=by have:=World.block_lt_of_cell? _ _ (by assumption:w5.cell? ⟨bx,0,none⟩=_);exact this
 clear AL WS
 generalize World.alloc w5 _=w6 at *
 generalize w5.heap.size=bn at *
 have gw:¬ w.heap.size=bn:=by omega
 have gw':¬ bn=w.heap.size:=by omega
 have gx:¬ bx=bn:=by omega
 have gx':¬ bn=bx:=by omega
 obtain ⟨m0,m1,m2,m3,m4,m5,mz⟩:=BN.out
 obtain ⟨u0,u1,u2,u3,u4,u5,uz⟩:=HB.out
 replace HS:=hid (HS.out.put (q:=bn) (i:=2) (by omega) (by omega) (.int .i64 4))
 replace HG:=hid (HG.out.put (q:=bn) (i:=2) (by omega) (.int .i64 4))
 replace HB:=hid (HB.out.put (q:=bn) (i:=2) (by omega) (.int .i64 4))
 have BF:=hid (HB.out.sets (.string ⟨#[108,105,116]⟩) (.string ⟨#[]⟩) (.int .i64 4) (.int .i64 (nw s.l:Nat)) (.int .i64 (aw s.l:Nat)) (.slice none 0 0))
 have SF:=hid (HS.out.put6 (q:=w.heap.size) (by omega) (by omega) (.string ⟨#[108,105,116]⟩) (.string ⟨#[]⟩) (.int .i64 4) (.int .i64 (nw s.l:Nat)) (.int .i64 (aw s.l:Nat)) (.slice none 0 0))
 have GF:=hid (HG.out.put6 (q:=w.heap.size) (by omega) (.string ⟨#[108,105,116]⟩) (.string ⟨#[]⟩) (.int .i64 4) (.int .i64 (nw s.l:Nat)) (.int .i64 (aw s.l:Nat)) (.slice none 0 0))
 go_wp2_with fail
 generalize World.setCell _ ⟨w.heap.size,5,none⟩ _=wf at *
 obtain ⟨q0,q1,q2,q3,q4,q5,_⟩:=BF.out
 exact bodyPost_ret (v:=.agg #[.string ⟨#[108,105,116]⟩,.string ⟨#[]⟩,.int .i64 4,.int .i64 (nw s.l:Nat),.int .i64 (aw s.l:Nat),.slice none 0 0]) (by simp [results,Tryd.results48,go_sem,q0,q1,q2,q3,q4,q5]) rfl ⟨GF.out,SF.out,_,rfl,_,rfl,.nil⟩
set_option maxRecDepth 100000 in
set_option maxHeartbeats 4000000 in
theorem rlit_6 {w:World} {p b c:Nat} {ws:List Wo} {d:Nat} {s:Sp} (h:Sw w p b c ws d s) (y:s.islit=true) (k0:kw s.l≠0) (q:kw s.l=6) :
  Calls Tryd.prog 48 #[.pointer (some ⟨p,0,none⟩)] w fun e w'=>Rn w w' p b c ws d e (.nd ⟨#[108,105,116]⟩ ⟨#[]⟩ 5 (nw s.l:Nat) (aw s.l) [],s.nx):=by
 have pl0:=h.pl
 have bl0:=h.bl
 have HB:=hid (B6.new w 31 (.string ⟨#[]⟩) (.string ⟨#[]⟩) (.int .i64 0) (.int .i64 0) (.int .i64 0) (.slice none 0 0))
 have HS0:Hid (Below w.heap.size w (w.alloc (.cells #[.string ⟨#[]⟩,.string ⟨#[]⟩,.int .i64 0,.int .i64 0,.int .i64 0,.slice none 0 0] 31))):=(Below.refl _ _).alloc (Nat.le_refl _) _
 have HS:=hid (h.next HS0.out)
 have HG:=hid ((Gr.refl w p).below HS0.out)
 have WS:=hid (show w.heap.size<(w.alloc (.cells #[.string ⟨#[]⟩,.string ⟨#[]⟩,.int .i64 0,.int .i64 0,.int .i64 0,.slice none 0 0] 31)).heap.size from by simp)
 have f0:=fd0
 have f1:=fd1
 have f3:=fd3
 have QH:=hid q
 clear q
 have Y:=hid y
 have K0:=hid k0
 clear h y k0
 go_enter Tryd.func48,Tryd.ntmps48
 go_upto_region 1 with fail
 generalize World.alloc w _=w1 at *
 obtain ⟨n0,hn0⟩:∃ n,n=w1.heap.size:=⟨_,rfl⟩
 have wn:w.heap.size<n0:=by rw [hn0];exact WS.out
 have pn:p<n0:=by omega
 have bn:b<n0:=by omega
 replace WS:=hid (Nat.le_of_eq hn0)
 clear hn0 HS0
 have IC:=hid (rislit_any HS.out)
 rw [Y.out] at IC
 go_upto_region 4 with (go_at_call 61;with_reducible refine Calls.mono IC.out ?_;rintro e w2 ⟨rfl,b2⟩;replace HS:=hid (HS.out.next b2);replace HG:=hid (HG.out.below b2);replace HB:=hid (HB.out.next b2);replace WS:=hid (Nat.le_trans WS.out b2.size);clear b2 IC)
 have WC:=hid (rw_any HS.out)
 rw [QH.out] at WC
 go_upto_region 5 with (go_at_call 40;with_reducible refine Calls.mono WC.out ?_;rintro e w3 ⟨rfl,b3⟩;replace HS:=hid (HS.out.next b3);replace HG:=hid (HG.out.below b3);replace HB:=hid (HB.out.next b3);replace WS:=hid (Nat.le_trans WS.out b3.size);clear b3 WC)
 have AL:=hid (show Below w3.heap.size w3 (w3.alloc (.cells #[.int .i64 6,.string (tw s.l),.int .i64 (nw s.l:Nat),.int .i64 (aw s.l:Nat)] 58)) from (Below.refl _ _).alloc (Nat.le_refl _) _)
 have XN:=hid (X4.new w3 58 (.int .i64 6) (.string (tw s.l)) (.int .i64 (nw s.l:Nat)) (.int .i64 (aw s.l:Nat)))
 have xs:n0≤w3.heap.size:=WS.out
 replace HS:=hid (HS.out.next AL.out)
 replace HG:=hid (HG.out.below AL.out)
 replace HB:=hid (HB.out.next AL.out)
 replace WS:=hid (Nat.le_trans WS.out AL.out.size)
 clear AL
 generalize World.alloc w3 _=y3 at *
 generalize w3.heap.size=bx at *
 obtain ⟨k,k9,el,q,hk,et⟩:=HS.out.mv K0.out
 have g1:=q.c1
 have z1:=q.fz 1
 have ET:=hid et
 have Q:=hid (q.step hk)
 have xp:bx≠p:=by omega
 have xq:p≠bx:=by omega
 obtain ⟨x0,x1,x2,x3,_,_,_⟩:=XN.out
 have X0:=hid ((cell_ne (w:=y3) (i:=1) (u:=.int .i64 ((k:Int)+1)) (fun e=>xq e.1)).trans x0)
 have X1:=hid ((cell_ne (w:=y3) (i:=1) (u:=.int .i64 ((k:Int)+1)) (fun e=>xq e.1)).trans x1)
 have X2:=hid ((cell_ne (w:=y3) (i:=1) (u:=.int .i64 ((k:Int)+1)) (fun e=>xq e.1)).trans x2)
 have X3:=hid ((cell_ne (w:=y3) (i:=1) (u:=.int .i64 ((k:Int)+1)) (fun e=>xq e.1)).trans x3)
 replace HG:=hid (HG.out.set (i:=1) (.int .i64 ((k:Int)+1)))
 replace HB:=hid (HB.out.put (q:=p) (i:=1) (by omega) (.int .i64 ((k:Int)+1)))
 replace WS:=hid (show n0≤(y3.setCell ⟨p,1,none⟩ (.int .i64 ((k:Int)+1))).heap.size from by simpa using WS.out)
 clear x0 x1 x2 x3 q el et hk HS XN
 go_upto_region 6 with fail
 generalize World.setCell y3 _ _=w5 at *
 clear g1 z1
 have HS:Hid (Sw w5 p b c ws d s.nx):=⟨k+1,ET.out,Q.out⟩
 clear Q ET
 have x0:=X0.out
 have x1:=X1.out
 have x2:=X2.out
 have x3:=X3.out
 clear X0 X1 X2 X3
 go_upto_region 7 with fail
 have AL:=hid (show Below w5.heap.size w5 (w5.alloc (.cells #[.string ⟨#[108,105,116]⟩,.string ⟨#[]⟩,.int .i64 0,.int .i64 (nw s.l:Nat),.int .i64 (aw s.l:Nat),.slice none 0 0] 31)) from (Below.refl _ _).alloc (Nat.le_refl _) _)
 have BN:=hid (B6.new w5 31 (.string ⟨#[108,105,116]⟩) (.string ⟨#[]⟩) (.int .i64 0) (.int .i64 (nw s.l:Nat)) (.int .i64 (aw s.l:Nat)) (.slice none 0 0))
 have ns:n0≤w5.heap.size:=WS.out
 have x0:(w5.alloc (.cells #[.string ⟨#[108,105,116]⟩,.string ⟨#[]⟩,.int .i64 0,.int .i64 (nw s.l:Nat),.int .i64 (aw s.l:Nat),.slice none 0 0] 31)).cell? ⟨bx,0,none⟩=_:=(AL.out.cell (p:=⟨bx,0,none⟩) (World.block_lt_of_cell? _ _ x0)).trans x0
 have x1:(w5.alloc (.cells #[.string ⟨#[108,105,116]⟩,.string ⟨#[]⟩,.int .i64 0,.int .i64 (nw s.l:Nat),.int .i64 (aw s.l:Nat),.slice none 0 0] 31)).cell? ⟨bx,1,none⟩=_:=(AL.out.cell (p:=⟨bx,1,none⟩) (World.block_lt_of_cell? _ _ x1)).trans x1
 have x2:(w5.alloc (.cells #[.string ⟨#[108,105,116]⟩,.string ⟨#[]⟩,.int .i64 0,.int .i64 (nw s.l:Nat),.int .i64 (aw s.l:Nat),.slice none 0 0] 31)).cell? ⟨bx,2,none⟩=_:=(AL.out.cell (p:=⟨bx,2,none⟩) (World.block_lt_of_cell? _ _ x2)).trans x2
 have x3:(w5.alloc (.cells #[.string ⟨#[108,105,116]⟩,.string ⟨#[]⟩,.int .i64 0,.int .i64 (nw s.l:Nat),.int .i64 (aw s.l:Nat),.slice none 0 0] 31)).cell? ⟨bx,3,none⟩=_:=(AL.out.cell (p:=⟨bx,3,none⟩) (World.block_lt_of_cell? _ _ x3)).trans x3
 replace HS:=hid (HS.out.next AL.out)
 replace HG:=hid (HG.out.below AL.out)
 replace HB:=hid (HB.out.next AL.out)
 have bl:bx<w5.heap.size:=by have:=World.block_lt_of_cell? _ _ (by assumption:w5.cell? ⟨bx,0,none⟩=_);exact this
 clear AL WS
 generalize World.alloc w5 _=w6 at *
 generalize w5.heap.size=bn at *
 have gw:¬ w.heap.size=bn:=by omega
 have gw':¬ bn=w.heap.size:=by omega
 have gx:¬ bx=bn:=by omega
 have gx':¬ bn=bx:=by omega
 obtain ⟨m0,m1,m2,m3,m4,m5,mz⟩:=BN.out
 obtain ⟨u0,u1,u2,u3,u4,u5,uz⟩:=HB.out
 replace HS:=hid (HS.out.put (q:=bn) (i:=2) (by omega) (by omega) (.int .i64 5))
 replace HG:=hid (HG.out.put (q:=bn) (i:=2) (by omega) (.int .i64 5))
 replace HB:=hid (HB.out.put (q:=bn) (i:=2) (by omega) (.int .i64 5))
 have BF:=hid (HB.out.sets (.string ⟨#[108,105,116]⟩) (.string ⟨#[]⟩) (.int .i64 5) (.int .i64 (nw s.l:Nat)) (.int .i64 (aw s.l:Nat)) (.slice none 0 0))
 have SF:=hid (HS.out.put6 (q:=w.heap.size) (by omega) (by omega) (.string ⟨#[108,105,116]⟩) (.string ⟨#[]⟩) (.int .i64 5) (.int .i64 (nw s.l:Nat)) (.int .i64 (aw s.l:Nat)) (.slice none 0 0))
 have GF:=hid (HG.out.put6 (q:=w.heap.size) (by omega) (.string ⟨#[108,105,116]⟩) (.string ⟨#[]⟩) (.int .i64 5) (.int .i64 (nw s.l:Nat)) (.int .i64 (aw s.l:Nat)) (.slice none 0 0))
 go_wp2_with fail
 generalize World.setCell _ ⟨w.heap.size,5,none⟩ _=wf at *
 obtain ⟨q0,q1,q2,q3,q4,q5,_⟩:=BF.out
 exact bodyPost_ret (v:=.agg #[.string ⟨#[108,105,116]⟩,.string ⟨#[]⟩,.int .i64 5,.int .i64 (nw s.l:Nat),.int .i64 (aw s.l:Nat),.slice none 0 0]) (by simp [results,Tryd.results48,go_sem,q0,q1,q2,q3,q4,q5]) rfl ⟨GF.out,SF.out,_,rfl,_,rfl,.nil⟩
set_option maxRecDepth 100000 in
set_option maxHeartbeats 4000000 in
theorem rlit_t {w:World} {p b c:Nat} {ws:List Wo} {d:Nat} {s:Sp} (h:Sw w p b c ws d s) (y:s.islit=true) (k0:kw s.l≠0) (n3:¬ (kw s.l:Int)=3) (n4:¬ (kw s.l:Int)=4) (n5:¬ (kw s.l:Int)=5) (n6:¬ (kw s.l:Int)=6) (tt:((tw s.l).toList==[116,114,117,101])=true) :
  Calls Tryd.prog 48 #[.pointer (some ⟨p,0,none⟩)] w fun e w'=>Rn w w' p b c ws d e (.nd ⟨#[108,105,116]⟩ ⟨#[]⟩ 1 (1) (aw s.l) [],s.nx):=by
 have pl0:=h.pl
 have bl0:=h.bl
 have HB:=hid (B6.new w 31 (.string ⟨#[]⟩) (.string ⟨#[]⟩) (.int .i64 0) (.int .i64 0) (.int .i64 0) (.slice none 0 0))
 have HS0:Hid (Below w.heap.size w (w.alloc (.cells #[.string ⟨#[]⟩,.string ⟨#[]⟩,.int .i64 0,.int .i64 0,.int .i64 0,.slice none 0 0] 31))):=(Below.refl _ _).alloc (Nat.le_refl _) _
 have HS:=hid (h.next HS0.out)
 have HG:=hid ((Gr.refl w p).below HS0.out)
 have WS:=hid (show w.heap.size<(w.alloc (.cells #[.string ⟨#[]⟩,.string ⟨#[]⟩,.int .i64 0,.int .i64 0,.int .i64 0,.slice none 0 0] 31)).heap.size from by simp)
 have f0:=fd0
 have f1:=fd1
 have f3:=fd3
 have Y:=hid y
 have K0:=hid k0
 clear h y k0
 go_enter Tryd.func48,Tryd.ntmps48
 go_upto_region 1 with fail
 generalize World.alloc w _=w1 at *
 obtain ⟨n0,hn0⟩:∃ n,n=w1.heap.size:=⟨_,rfl⟩
 have wn:w.heap.size<n0:=by rw [hn0];exact WS.out
 have pn:p<n0:=by omega
 have bn:b<n0:=by omega
 replace WS:=hid (Nat.le_of_eq hn0)
 clear hn0 HS0
 have IC:=hid (rislit_any HS.out)
 rw [Y.out] at IC
 go_upto_region 4 with (go_at_call 61;with_reducible refine Calls.mono IC.out ?_;rintro e w2 ⟨rfl,b2⟩;replace HS:=hid (HS.out.next b2);replace HG:=hid (HG.out.below b2);replace HB:=hid (HB.out.next b2);replace WS:=hid (Nat.le_trans WS.out b2.size);clear b2 IC)
 have WC:=hid (rw_any HS.out)
 go_upto_region 5 with (go_at_call 40;with_reducible refine Calls.mono WC.out ?_;rintro e w3 ⟨rfl,b3⟩;replace HS:=hid (HS.out.next b3);replace HG:=hid (HG.out.below b3);replace HB:=hid (HB.out.next b3);replace WS:=hid (Nat.le_trans WS.out b3.size);clear b3 WC)
 have AL:=hid (show Below w3.heap.size w3 (w3.alloc (.cells #[.int .i64 (kw s.l:Nat),.string (tw s.l),.int .i64 (nw s.l:Nat),.int .i64 (aw s.l:Nat)] 58)) from (Below.refl _ _).alloc (Nat.le_refl _) _)
 have XN:=hid (X4.new w3 58 (.int .i64 (kw s.l:Nat)) (.string (tw s.l)) (.int .i64 (nw s.l:Nat)) (.int .i64 (aw s.l:Nat)))
 have xs:n0≤w3.heap.size:=WS.out
 replace HS:=hid (HS.out.next AL.out)
 replace HG:=hid (HG.out.below AL.out)
 replace HB:=hid (HB.out.next AL.out)
 replace WS:=hid (Nat.le_trans WS.out AL.out.size)
 clear AL
 generalize World.alloc w3 _=y3 at *
 generalize w3.heap.size=bx at *
 obtain ⟨k,k9,el,q,hk,et⟩:=HS.out.mv K0.out
 have g1:=q.c1
 have z1:=q.fz 1
 have ET:=hid et
 have Q:=hid (q.step hk)
 have xp:bx≠p:=by omega
 have xq:p≠bx:=by omega
 obtain ⟨x0,x1,x2,x3,_,_,_⟩:=XN.out
 have X0:=hid ((cell_ne (w:=y3) (i:=1) (u:=.int .i64 ((k:Int)+1)) (fun e=>xq e.1)).trans x0)
 have X1:=hid ((cell_ne (w:=y3) (i:=1) (u:=.int .i64 ((k:Int)+1)) (fun e=>xq e.1)).trans x1)
 have X2:=hid ((cell_ne (w:=y3) (i:=1) (u:=.int .i64 ((k:Int)+1)) (fun e=>xq e.1)).trans x2)
 have X3:=hid ((cell_ne (w:=y3) (i:=1) (u:=.int .i64 ((k:Int)+1)) (fun e=>xq e.1)).trans x3)
 replace HG:=hid (HG.out.set (i:=1) (.int .i64 ((k:Int)+1)))
 replace HB:=hid (HB.out.put (q:=p) (i:=1) (by omega) (.int .i64 ((k:Int)+1)))
 replace WS:=hid (show n0≤(y3.setCell ⟨p,1,none⟩ (.int .i64 ((k:Int)+1))).heap.size from by simpa using WS.out)
 clear x0 x1 x2 x3 q el et hk HS XN
 go_upto_region 6 with fail
 generalize World.setCell y3 _ _=w5 at *
 clear g1 z1
 have HS:Hid (Sw w5 p b c ws d s.nx):=⟨k+1,ET.out,Q.out⟩
 clear Q ET
 have x0:=X0.out
 have x1:=X1.out
 have x2:=X2.out
 have x3:=X3.out
 clear X0 X1 X2 X3
 go_upto_region 7 with fail
 have AL:=hid (show Below w5.heap.size w5 (w5.alloc (.cells #[.string ⟨#[108,105,116]⟩,.string ⟨#[]⟩,.int .i64 0,.int .i64 (nw s.l:Nat),.int .i64 (aw s.l:Nat),.slice none 0 0] 31)) from (Below.refl _ _).alloc (Nat.le_refl _) _)
 have BN:=hid (B6.new w5 31 (.string ⟨#[108,105,116]⟩) (.string ⟨#[]⟩) (.int .i64 0) (.int .i64 (nw s.l:Nat)) (.int .i64 (aw s.l:Nat)) (.slice none 0 0))
 have ns:n0≤w5.heap.size:=WS.out
 have x0:(w5.alloc (.cells #[.string ⟨#[108,105,116]⟩,.string ⟨#[]⟩,.int .i64 0,.int .i64 (nw s.l:Nat),.int .i64 (aw s.l:Nat),.slice none 0 0] 31)).cell? ⟨bx,0,none⟩=_:=(AL.out.cell (p:=⟨bx,0,none⟩) (World.block_lt_of_cell? _ _ x0)).trans x0
 have x1:(w5.alloc (.cells #[.string ⟨#[108,105,116]⟩,.string ⟨#[]⟩,.int .i64 0,.int .i64 (nw s.l:Nat),.int .i64 (aw s.l:Nat),.slice none 0 0] 31)).cell? ⟨bx,1,none⟩=_:=(AL.out.cell (p:=⟨bx,1,none⟩) (World.block_lt_of_cell? _ _ x1)).trans x1
 have x2:(w5.alloc (.cells #[.string ⟨#[108,105,116]⟩,.string ⟨#[]⟩,.int .i64 0,.int .i64 (nw s.l:Nat),.int .i64 (aw s.l:Nat),.slice none 0 0] 31)).cell? ⟨bx,2,none⟩=_:=(AL.out.cell (p:=⟨bx,2,none⟩) (World.block_lt_of_cell? _ _ x2)).trans x2
 have x3:(w5.alloc (.cells #[.string ⟨#[108,105,116]⟩,.string ⟨#[]⟩,.int .i64 0,.int .i64 (nw s.l:Nat),.int .i64 (aw s.l:Nat),.slice none 0 0] 31)).cell? ⟨bx,3,none⟩=_:=(AL.out.cell (p:=⟨bx,3,none⟩) (World.block_lt_of_cell? _ _ x3)).trans x3
 replace HS:=hid (HS.out.next AL.out)
 replace HG:=hid (HG.out.below AL.out)
 replace HB:=hid (HB.out.next AL.out)
 have bl:bx<w5.heap.size:=by have:=World.block_lt_of_cell? _ _ (by assumption:w5.cell? ⟨bx,0,none⟩=_);exact this
 clear AL WS
 generalize World.alloc w5 _=w6 at *
 generalize w5.heap.size=bn at *
 have gw:¬ w.heap.size=bn:=by omega
 have gw':¬ bn=w.heap.size:=by omega
 have gx:¬ bx=bn:=by omega
 have gx':¬ bn=bx:=by omega
 obtain ⟨m0,m1,m2,m3,m4,m5,mz⟩:=BN.out
 obtain ⟨u0,u1,u2,u3,u4,u5,uz⟩:=HB.out
 replace HS:=hid ((HS.out.put (q:=bn) (i:=2) (by omega) (by omega) (.int .i64 1)).put (q:=bn) (i:=3) (by omega) (by omega) (.int .i64 1))
 replace HG:=hid ((HG.out.put (q:=bn) (i:=2) (by omega) (.int .i64 1)).put (q:=bn) (i:=3) (by omega) (.int .i64 1))
 replace HB:=hid ((HB.out.put (q:=bn) (i:=2) (by omega) (.int .i64 1)).put (q:=bn) (i:=3) (by omega) (.int .i64 1))
 have BF:=hid (HB.out.sets (.string ⟨#[108,105,116]⟩) (.string ⟨#[]⟩) (.int .i64 1) (.int .i64 1) (.int .i64 (aw s.l:Nat)) (.slice none 0 0))
 have SF:=hid (HS.out.put6 (q:=w.heap.size) (by omega) (by omega) (.string ⟨#[108,105,116]⟩) (.string ⟨#[]⟩) (.int .i64 1) (.int .i64 1) (.int .i64 (aw s.l:Nat)) (.slice none 0 0))
 have GF:=hid (HG.out.put6 (q:=w.heap.size) (by omega) (.string ⟨#[108,105,116]⟩) (.string ⟨#[]⟩) (.int .i64 1) (.int .i64 1) (.int .i64 (aw s.l:Nat)) (.slice none 0 0))
 go_wp2_with fail
 generalize World.setCell _ ⟨w.heap.size,5,none⟩ _=wf at *
 obtain ⟨q0,q1,q2,q3,q4,q5,_⟩:=BF.out
 exact bodyPost_ret (v:=.agg #[.string ⟨#[108,105,116]⟩,.string ⟨#[]⟩,.int .i64 1,.int .i64 1,.int .i64 (aw s.l:Nat),.slice none 0 0]) (by simp [results,Tryd.results48,go_sem,q0,q1,q2,q3,q4,q5]) rfl ⟨GF.out,SF.out,_,rfl,_,rfl,.nil⟩
set_option maxRecDepth 100000 in
set_option maxHeartbeats 4000000 in
theorem rlit_f {w:World} {p b c:Nat} {ws:List Wo} {d:Nat} {s:Sp} (h:Sw w p b c ws d s) (y:s.islit=true) (k0:kw s.l≠0) (n3:¬ (kw s.l:Int)=3) (n4:¬ (kw s.l:Int)=4) (n5:¬ (kw s.l:Int)=5) (n6:¬ (kw s.l:Int)=6) (tt:((tw s.l).toList==[116,114,117,101])=false) :
  Calls Tryd.prog 48 #[.pointer (some ⟨p,0,none⟩)] w fun e w'=>Rn w w' p b c ws d e (.nd ⟨#[108,105,116]⟩ ⟨#[]⟩ 1 (nw s.l:Nat) (aw s.l) [],s.nx):=by
 have pl0:=h.pl
 have bl0:=h.bl
 have HB:=hid (B6.new w 31 (.string ⟨#[]⟩) (.string ⟨#[]⟩) (.int .i64 0) (.int .i64 0) (.int .i64 0) (.slice none 0 0))
 have HS0:Hid (Below w.heap.size w (w.alloc (.cells #[.string ⟨#[]⟩,.string ⟨#[]⟩,.int .i64 0,.int .i64 0,.int .i64 0,.slice none 0 0] 31))):=(Below.refl _ _).alloc (Nat.le_refl _) _
 have HS:=hid (h.next HS0.out)
 have HG:=hid ((Gr.refl w p).below HS0.out)
 have WS:=hid (show w.heap.size<(w.alloc (.cells #[.string ⟨#[]⟩,.string ⟨#[]⟩,.int .i64 0,.int .i64 0,.int .i64 0,.slice none 0 0] 31)).heap.size from by simp)
 have f0:=fd0
 have f1:=fd1
 have f3:=fd3
 have Y:=hid y
 have K0:=hid k0
 clear h y k0
 go_enter Tryd.func48,Tryd.ntmps48
 go_upto_region 1 with fail
 generalize World.alloc w _=w1 at *
 obtain ⟨n0,hn0⟩:∃ n,n=w1.heap.size:=⟨_,rfl⟩
 have wn:w.heap.size<n0:=by rw [hn0];exact WS.out
 have pn:p<n0:=by omega
 have bn:b<n0:=by omega
 replace WS:=hid (Nat.le_of_eq hn0)
 clear hn0 HS0
 have IC:=hid (rislit_any HS.out)
 rw [Y.out] at IC
 go_upto_region 4 with (go_at_call 61;with_reducible refine Calls.mono IC.out ?_;rintro e w2 ⟨rfl,b2⟩;replace HS:=hid (HS.out.next b2);replace HG:=hid (HG.out.below b2);replace HB:=hid (HB.out.next b2);replace WS:=hid (Nat.le_trans WS.out b2.size);clear b2 IC)
 have WC:=hid (rw_any HS.out)
 go_upto_region 5 with (go_at_call 40;with_reducible refine Calls.mono WC.out ?_;rintro e w3 ⟨rfl,b3⟩;replace HS:=hid (HS.out.next b3);replace HG:=hid (HG.out.below b3);replace HB:=hid (HB.out.next b3);replace WS:=hid (Nat.le_trans WS.out b3.size);clear b3 WC)
 have AL:=hid (show Below w3.heap.size w3 (w3.alloc (.cells #[.int .i64 (kw s.l:Nat),.string (tw s.l),.int .i64 (nw s.l:Nat),.int .i64 (aw s.l:Nat)] 58)) from (Below.refl _ _).alloc (Nat.le_refl _) _)
 have XN:=hid (X4.new w3 58 (.int .i64 (kw s.l:Nat)) (.string (tw s.l)) (.int .i64 (nw s.l:Nat)) (.int .i64 (aw s.l:Nat)))
 have xs:n0≤w3.heap.size:=WS.out
 replace HS:=hid (HS.out.next AL.out)
 replace HG:=hid (HG.out.below AL.out)
 replace HB:=hid (HB.out.next AL.out)
 replace WS:=hid (Nat.le_trans WS.out AL.out.size)
 clear AL
 generalize World.alloc w3 _=y3 at *
 generalize w3.heap.size=bx at *
 obtain ⟨k,k9,el,q,hk,et⟩:=HS.out.mv K0.out
 have g1:=q.c1
 have z1:=q.fz 1
 have ET:=hid et
 have Q:=hid (q.step hk)
 have xp:bx≠p:=by omega
 have xq:p≠bx:=by omega
 obtain ⟨x0,x1,x2,x3,_,_,_⟩:=XN.out
 have X0:=hid ((cell_ne (w:=y3) (i:=1) (u:=.int .i64 ((k:Int)+1)) (fun e=>xq e.1)).trans x0)
 have X1:=hid ((cell_ne (w:=y3) (i:=1) (u:=.int .i64 ((k:Int)+1)) (fun e=>xq e.1)).trans x1)
 have X2:=hid ((cell_ne (w:=y3) (i:=1) (u:=.int .i64 ((k:Int)+1)) (fun e=>xq e.1)).trans x2)
 have X3:=hid ((cell_ne (w:=y3) (i:=1) (u:=.int .i64 ((k:Int)+1)) (fun e=>xq e.1)).trans x3)
 replace HG:=hid (HG.out.set (i:=1) (.int .i64 ((k:Int)+1)))
 replace HB:=hid (HB.out.put (q:=p) (i:=1) (by omega) (.int .i64 ((k:Int)+1)))
 replace WS:=hid (show n0≤(y3.setCell ⟨p,1,none⟩ (.int .i64 ((k:Int)+1))).heap.size from by simpa using WS.out)
 clear x0 x1 x2 x3 q el et hk HS XN
 go_upto_region 6 with fail
 generalize World.setCell y3 _ _=w5 at *
 clear g1 z1
 have HS:Hid (Sw w5 p b c ws d s.nx):=⟨k+1,ET.out,Q.out⟩
 clear Q ET
 have x0:=X0.out
 have x1:=X1.out
 have x2:=X2.out
 have x3:=X3.out
 clear X0 X1 X2 X3
 go_upto_region 7 with fail
 have AL:=hid (show Below w5.heap.size w5 (w5.alloc (.cells #[.string ⟨#[108,105,116]⟩,.string ⟨#[]⟩,.int .i64 0,.int .i64 (nw s.l:Nat),.int .i64 (aw s.l:Nat),.slice none 0 0] 31)) from (Below.refl _ _).alloc (Nat.le_refl _) _)
 have BN:=hid (B6.new w5 31 (.string ⟨#[108,105,116]⟩) (.string ⟨#[]⟩) (.int .i64 0) (.int .i64 (nw s.l:Nat)) (.int .i64 (aw s.l:Nat)) (.slice none 0 0))
 have ns:n0≤w5.heap.size:=WS.out
 have x0:(w5.alloc (.cells #[.string ⟨#[108,105,116]⟩,.string ⟨#[]⟩,.int .i64 0,.int .i64 (nw s.l:Nat),.int .i64 (aw s.l:Nat),.slice none 0 0] 31)).cell? ⟨bx,0,none⟩=_:=(AL.out.cell (p:=⟨bx,0,none⟩) (World.block_lt_of_cell? _ _ x0)).trans x0
 have x1:(w5.alloc (.cells #[.string ⟨#[108,105,116]⟩,.string ⟨#[]⟩,.int .i64 0,.int .i64 (nw s.l:Nat),.int .i64 (aw s.l:Nat),.slice none 0 0] 31)).cell? ⟨bx,1,none⟩=_:=(AL.out.cell (p:=⟨bx,1,none⟩) (World.block_lt_of_cell? _ _ x1)).trans x1
 have x2:(w5.alloc (.cells #[.string ⟨#[108,105,116]⟩,.string ⟨#[]⟩,.int .i64 0,.int .i64 (nw s.l:Nat),.int .i64 (aw s.l:Nat),.slice none 0 0] 31)).cell? ⟨bx,2,none⟩=_:=(AL.out.cell (p:=⟨bx,2,none⟩) (World.block_lt_of_cell? _ _ x2)).trans x2
 have x3:(w5.alloc (.cells #[.string ⟨#[108,105,116]⟩,.string ⟨#[]⟩,.int .i64 0,.int .i64 (nw s.l:Nat),.int .i64 (aw s.l:Nat),.slice none 0 0] 31)).cell? ⟨bx,3,none⟩=_:=(AL.out.cell (p:=⟨bx,3,none⟩) (World.block_lt_of_cell? _ _ x3)).trans x3
 replace HS:=hid (HS.out.next AL.out)
 replace HG:=hid (HG.out.below AL.out)
 replace HB:=hid (HB.out.next AL.out)
 have bl:bx<w5.heap.size:=by have:=World.block_lt_of_cell? _ _ (by assumption:w5.cell? ⟨bx,0,none⟩=_);exact this
 clear AL WS
 generalize World.alloc w5 _=w6 at *
 generalize w5.heap.size=bn at *
 have gw:¬ w.heap.size=bn:=by omega
 have gw':¬ bn=w.heap.size:=by omega
 have gx:¬ bx=bn:=by omega
 have gx':¬ bn=bx:=by omega
 obtain ⟨m0,m1,m2,m3,m4,m5,mz⟩:=BN.out
 obtain ⟨u0,u1,u2,u3,u4,u5,uz⟩:=HB.out
 replace HS:=hid (HS.out.put (q:=bn) (i:=2) (by omega) (by omega) (.int .i64 1))
 replace HG:=hid (HG.out.put (q:=bn) (i:=2) (by omega) (.int .i64 1))
 replace HB:=hid (HB.out.put (q:=bn) (i:=2) (by omega) (.int .i64 1))
 have BF:=hid (HB.out.sets (.string ⟨#[108,105,116]⟩) (.string ⟨#[]⟩) (.int .i64 1) (.int .i64 (nw s.l:Nat)) (.int .i64 (aw s.l:Nat)) (.slice none 0 0))
 have SF:=hid (HS.out.put6 (q:=w.heap.size) (by omega) (by omega) (.string ⟨#[108,105,116]⟩) (.string ⟨#[]⟩) (.int .i64 1) (.int .i64 (nw s.l:Nat)) (.int .i64 (aw s.l:Nat)) (.slice none 0 0))
 have GF:=hid (HG.out.put6 (q:=w.heap.size) (by omega) (.string ⟨#[108,105,116]⟩) (.string ⟨#[]⟩) (.int .i64 1) (.int .i64 (nw s.l:Nat)) (.int .i64 (aw s.l:Nat)) (.slice none 0 0))
 go_wp2_with fail
 generalize World.setCell _ ⟨w.heap.size,5,none⟩ _=wf at *
 obtain ⟨q0,q1,q2,q3,q4,q5,_⟩:=BF.out
 exact bodyPost_ret (v:=.agg #[.string ⟨#[108,105,116]⟩,.string ⟨#[]⟩,.int .i64 1,.int .i64 (nw s.l:Nat),.int .i64 (aw s.l:Nat),.slice none 0 0]) (by simp [results,Tryd.results48,go_sem,q0,q1,q2,q3,q4,q5]) rfl ⟨GF.out,SF.out,_,rfl,_,rfl,.nil⟩
theorem rlit_any {w:World} {p b c:Nat} {ws:List Wo} {d:Nat} {s:Sp} (h:Sw w p b c ws d s) :
  Calls Tryd.prog 48 #[.pointer (some ⟨p,0,none⟩)] w fun e w'=>Rn w w' p b c ws d e s.lit:=by
 cases y:s.islit with
 | false =>
  rw [show s.lit=(Tr.zero,s.fail) from by unfold Sp.lit;rw [y];rfl]
  exact rlit_no h y
 | true =>
  have k0:kw s.l≠0:=by
   unfold Sp.islit at y
   simp only [Bool.and_eq_true,Bool.or_eq_true,decide_eq_true_eq] at y
   rcases y.2 with (z | z) | z
   ·omega
   ·exact is_kw z
   ·exact is_kw z
  rw [show s.lit=(litV s.l,s.nx) from by unfold Sp.lit;rw [y];rfl]
  by_cases q3:kw s.l=3
  ·rw [show litV s.l=.nd ⟨#[108,105,116]⟩ ⟨#[]⟩ 2 (nw s.l:Nat) (aw s.l) [] from by unfold litV;rw [if_pos q3];rfl];exact rlit_3 h y k0 q3
  ·by_cases q4:kw s.l=4
   ·rw [show litV s.l=.nd ⟨#[108,105,116]⟩ ⟨#[]⟩ 3 (nw s.l:Nat) (aw s.l) [] from by unfold litV;rw [if_neg q3,if_pos q4];rfl];exact rlit_4 h y k0 q4
   ·by_cases q5:kw s.l=5
    ·rw [show litV s.l=.nd ⟨#[108,105,116]⟩ ⟨#[]⟩ 4 (nw s.l:Nat) (aw s.l) [] from by unfold litV;rw [if_neg q3,if_neg q4,if_pos q5];rfl];exact rlit_5 h y k0 q5
    ·by_cases q6:kw s.l=6
     ·rw [show litV s.l=.nd ⟨#[108,105,116]⟩ ⟨#[]⟩ 5 (nw s.l:Nat) (aw s.l) [] from by unfold litV;rw [if_neg q3,if_neg q4,if_neg q5,if_pos q6];rfl];exact rlit_6 h y k0 q6
     ·cases t:eqB (tw s.l) sTrue with
      | true =>
       rw [show litV s.l=.nd ⟨#[108,105,116]⟩ ⟨#[]⟩ 1 1 (aw s.l) [] from by unfold litV;rw [if_neg q3,if_neg q4,if_neg q5,if_neg q6,t];rfl]
       exact rlit_t h y k0 (by omega) (by omega) (by omega) (by omega) (by rw [eqL];exact t)
      | false =>
       rw [show litV s.l=.nd ⟨#[108,105,116]⟩ ⟨#[]⟩ 1 (nw s.l:Nat) (aw s.l) [] from by unfold litV;rw [if_neg q3,if_neg q4,if_neg q5,if_neg q6,t];rfl]
       exact rlit_f h y k0 (by omega) (by omega) (by omega) (by omega) (by rw [eqL];exact t)
end Go.Proofs.YtbeahnehjannpaaDoor
