/- Parts of the proof. -/
import Derived.Test.YtbeahnehjannpaaDoorKI
import Derived.BigQuiet
import Derived.Deep.RegionHeld3
import Derived.Deep.CutBlock
namespace Go.Proofs.YtbeahnehjannpaaDoor
open Go.RowKit
set_option linter.unusedVariables false
set_option linter.unusedSimpArgs false
def tabE (r:List Tr × Sp):List Tr × Sp :=
 let t:=if r.2.ok && r.1.length==32 then r.2.lim else r.2
 let b:=(t.want sElse).lit
 (r.1 ++ [rowT (aw t.l) [b.1]],b.2.want sEnd)
theorem rows_bad {f:Nat} {ts:List Tr} {s:Sp} (hf:0<f) (h:s.ok=false):rowsX f ts s=(ts,s):=by
 cases f with
 | zero=>omega
 | succ f=>unfold rowsX;rw [h];rfl
theorem rows_else {f:Nat} {ts:List Tr} {s:Sp} (hf:0<f) (h:s.is ⟨#[101,108,115,101]⟩=true):rowsX f ts s=(ts,s):=by
 have h':s.is sElse=true:=h
 cases f with
 | zero=>omega
 | succ f=>unfold rowsX;rw [h'];simp
theorem rows_lim {f:Nat} {ts:List Tr} {s:Sp} (hf:0<f) (h:s.ok=true) (h2:s.is ⟨#[101,108,115,101]⟩=false) (h3:ts.length=32):rowsX f ts s=(ts,s.lim):=by
 have h':s.is sElse=false:=h2
 cases f with
 | zero=>omega
 | succ f=>unfold rowsX;rw [h,h'];simp [h3]
theorem rows_on {f:Nat} {ts:List Tr} {s:Sp} (hf:0<f) (h:s.ok=true) (h2:s.is ⟨#[101,108,115,101]⟩=false) (h3:¬ ts.length=32):rowsX f ts s=rowsX (f - 1) (ts ++ [rowT (aw s.l) [s.lit.1,((s.lit.2.want sColon).lit).1]]) (((s.lit.2.want sColon).lit).2.want sComma):=by
 have h':s.is sElse=false:=h2
 cases f with
 | zero=>omega
 | succ f =>
  rw [rowsX,h,h']
  simp only [Bool.not_false,Bool.and_self,if_true]
  rw [if_neg h3]
  rfl
set_option maxRecDepth 100000 in
set_option maxHeartbeats 4000000 in
theorem rdecl_table {w:World} {p b c:Nat} {ws:List Wo} {d:Nat} {s:Sp} (h:Sw w p b c ws d s) (y1:s.is ⟨#[105,110,112,117,116]⟩=false) (y2:s.is ⟨#[114,117,108,101]⟩=false) (y3:s.is ⟨#[116,97,98,108,101]⟩=true) (rn:ByteArray × Sp) (rk rh:Nat × Sp) (hn:s.nx.nm=rn) (hk:rn.2.kd=rk) (hh:rk.2.kd=rh) (rr:List Tr × Sp) (hr:tabE (rowsX 33 [] (rh.2.want ⟨#[123]⟩))=rr) :
  Calls Tryd.prog 26 #[.pointer (some ⟨p,0,none⟩)] w fun e w'=>Rn w w' p b c ws d e (.nd ⟨#[116,97,98,108,101]⟩ rn.1 rh.1 (rk.1:Nat) (aw s.l) rr.1,rr.2):=by
 have pl0:=h.pl
 have bl0:=h.bl
 have HB:=hid (B6.new w 31 (.string ⟨#[]⟩) (.string ⟨#[]⟩) (.int .i64 0) (.int .i64 0) (.int .i64 0) (.slice none 0 0))
 have HS0:Hid (Below w.heap.size w (w.alloc (.cells #[.string ⟨#[]⟩,.string ⟨#[]⟩,.int .i64 0,.int .i64 0,.int .i64 0,.slice none 0 0] 31))):=(Below.refl _ _).alloc (Nat.le_refl _) _
 have HS:=hid (h.next HS0.out)
 have HG:=hid ((Gr.refl w p).below HS0.out)
 have WS:=hid (show w.heap.size<(w.alloc (.cells #[.string ⟨#[]⟩,.string ⟨#[]⟩,.int .i64 0,.int .i64 0,.int .i64 0,.slice none 0 0] 31)).heap.size from by simp)
 have f0:=fd0
 have f1:=fd1
 have f3:=fd3
 have Y1:=hid y1
 have Y2:=hid y2
 have Y3:=hid y3
 have HN:=hid hn
 have HK:=hid hk
 have HH:=hid hh
 have HR:=hid hr
 clear h y1 y2 y3 hn hk hh hr
 go_enter Tryd.func26,Tryd.ntmps26
 go_upto_region 1 with fail
 generalize World.alloc w _=w1 at *
 obtain ⟨n0,hn0⟩:∃ n,n=w1.heap.size:=⟨_,rfl⟩
 have wn:w.heap.size<n0:=by rw [hn0];exact WS.out
 have pn:p<n0:=by omega
 have bn:b<n0:=by omega
 replace WS:=hid (Nat.le_of_eq hn0)
 clear hn0 HS0
 have WC:=hid (rw_any HS.out)
 go_upto_region 2 with (go_at_call 40;with_reducible refine Calls.mono WC.out ?_;rintro e w2 ⟨rfl,b2⟩;replace HS:=hid (HS.out.next b2);replace HG:=hid (HG.out.below b2);replace HB:=hid (HB.out.next b2);replace WS:=hid (Nat.le_trans WS.out b2.size);clear b2 WC)
 go_upto_region 4 with fail
 have AL:=hid (show Below w2.heap.size w2 (w2.alloc (.cells #[.string ⟨#[]⟩,.string ⟨#[]⟩,.int .i64 0,.int .i64 0,.int .i64 (aw s.l:Nat),.slice none 0 0] 31)) from (Below.refl _ _).alloc (Nat.le_refl _) _)
 have NB:=hid (show Bq (w2.alloc (.cells #[.string ⟨#[]⟩,.string ⟨#[]⟩,.int .i64 0,.int .i64 0,.int .i64 (aw s.l:Nat),.slice none 0 0] 31)) n0 w2.heap.size (.nd ⟨#[]⟩ ⟨#[]⟩ 0 0 (aw s.l) []) (.slice none 0 0) from ⟨B6.new w2 31 _ _ _ _ _ _,.nil,WS.out⟩)
 replace HS:=hid (HS.out.next AL.out)
 replace HG:=hid (HG.out.below AL.out)
 replace HB:=hid (HB.out.next AL.out)
 have qn:n0≤w2.heap.size:=WS.out
 replace WS:=hid (Nat.le_trans WS.out AL.out.size)
 clear AL
 generalize World.alloc w2 _=yb at *
 generalize w2.heap.size=q at *
 have TK:=hid (rtake_any HS.out ⟨#[105,110,112,117,116]⟩)
 rw [tk_no Y1.out,Y1.out] at TK
 go_upto_region 9 with (go_at_call 41;with_reducible refine Calls.mono TK.out ?_;rintro e w3 ⟨rfl,h3,g3⟩;replace HS:=hid h3;replace HG:=hid (HG.out.trans g3);replace HB:=hid (HB.out.gr g3 (by omega));replace WS:=hid (Nat.le_trans WS.out g3.size);replace NB:=hid (NB.out.gr g3 pn);clear h3 g3 TK)
 have TK:=hid (rtake_any HS.out ⟨#[114,117,108,101]⟩)
 rw [tk_no Y2.out,Y2.out] at TK
 go_upto_region 17 with (go_at_call 41;with_reducible refine Calls.mono TK.out ?_;rintro e w4 ⟨rfl,h4,g4⟩;replace HS:=hid h4;replace HG:=hid (HG.out.trans g4);replace HB:=hid (HB.out.gr g4 (by omega));replace WS:=hid (Nat.le_trans WS.out g4.size);replace NB:=hid (NB.out.gr g4 pn);clear h4 g4 TK)
 have TK:=hid (rtake_any HS.out ⟨#[116,97,98,108,101]⟩)
 rw [tk_yes Y3.out,Y3.out] at TK
 go_upto_region 18 with (go_at_call 41;with_reducible refine Calls.mono TK.out ?_;rintro e w5 ⟨rfl,h5,g5⟩;replace HS:=hid h5;replace HG:=hid (HG.out.trans g5);replace HB:=hid (HB.out.gr g5 (by omega));replace WS:=hid (Nat.le_trans WS.out g5.size);replace NB:=hid (NB.out.gr g5 pn);clear h5 g5 TK)
 obtain ⟨v0,v1,v2,v3,v4,v5,vz⟩:=(show B6 _ q (.string ⟨#[]⟩) (.string ⟨#[]⟩) (.int .i64 0) (.int .i64 0) (.int .i64 (aw s.l:Nat)) (.slice none 0 0) from NB.out.b)
 go_upto_region 19 with fail
 replace HS:=hid (HS.out.put (q:=q) (i:=0) (by omega) (by omega) (.string ⟨#[116,97,98,108,101]⟩))
 replace HG:=hid (HG.out.put (q:=q) (i:=0) (by omega) (.string ⟨#[116,97,98,108,101]⟩))
 replace HB:=hid (HB.out.put (q:=q) (i:=0) (by omega) (.string ⟨#[116,97,98,108,101]⟩))
 replace WS:=hid (show n0≤(w5.setCell ⟨q,0,none⟩ (.string ⟨#[116,97,98,108,101]⟩)).heap.size from by simpa using WS.out)
 replace NB:=hid (show Bq (w5.setCell ⟨q,0,none⟩ (.string ⟨#[116,97,98,108,101]⟩)) n0 q (.nd ⟨#[116,97,98,108,101]⟩ ⟨#[]⟩ 0 0 (aw s.l) []) (.slice none 0 0) from ⟨NB.out.b.set0 _,NB.out.d.put (n:=0) (fun e=>e.2 rfl) _,NB.out.l⟩)
 clear v0 v1 v2 v3 v4 v5 vz
 generalize World.setCell w5 _ _=z6 at *
 have NC:=hid (rname_any HS.out)
 rw [HN.out] at NC
 go_upto_region 20 with (go_at_call 42;with_reducible refine Calls.mono NC.out ?_;rintro e w7 ⟨rfl,h7,g7⟩;replace HS:=hid h7;replace HG:=hid (HG.out.trans g7);replace HB:=hid (HB.out.gr g7 (by omega));replace WS:=hid (Nat.le_trans WS.out g7.size);replace NB:=hid (NB.out.gr g7 pn);obtain ⟨v0,v1,v2,v3,v4,v5,vz⟩:=(show B6 _ q (.string ⟨#[116,97,98,108,101]⟩) (.string ⟨#[]⟩) (.int .i64 0) (.int .i64 0) (.int .i64 (aw s.l:Nat)) (.slice none 0 0) from NB.out.b);clear h7 g7 NC)
 replace HS:=hid (HS.out.put (q:=q) (i:=1) (by omega) (by omega) (.string rn.1))
 replace HG:=hid (HG.out.put (q:=q) (i:=1) (by omega) (.string rn.1))
 replace HB:=hid (HB.out.put (q:=q) (i:=1) (by omega) (.string rn.1))
 replace WS:=hid (show n0≤(w7.setCell ⟨q,1,none⟩ (.string rn.1)).heap.size from by simpa using WS.out)
 replace NB:=hid (show Bq (w7.setCell ⟨q,1,none⟩ (.string rn.1)) n0 q (.nd ⟨#[116,97,98,108,101]⟩ rn.1 0 0 (aw s.l) []) (.slice none 0 0) from ⟨NB.out.b.set1 _,NB.out.d.put (n:=0) (fun e=>e.2 rfl) _,NB.out.l⟩)
 clear v0 v1 v2 v3 v4 v5 vz
 generalize World.setCell w7 _ _=z8 at *
 have NC:=hid (rkind_any HS.out)
 rw [HK.out] at NC
 go_upto_region 21 with (go_at_call 43;with_reducible refine Calls.mono NC.out ?_;rintro e w9 ⟨rfl,h9,g9⟩;replace HS:=hid h9;replace HG:=hid (HG.out.trans g9);replace HB:=hid (HB.out.gr g9 (by omega));replace WS:=hid (Nat.le_trans WS.out g9.size);replace NB:=hid (NB.out.gr g9 pn);obtain ⟨v0,v1,v2,v3,v4,v5,vz⟩:=(show B6 _ q (.string ⟨#[116,97,98,108,101]⟩) (.string rn.1) (.int .i64 0) (.int .i64 0) (.int .i64 (aw s.l:Nat)) (.slice none 0 0) from NB.out.b);clear h9 g9 NC)
 replace HS:=hid (HS.out.put (q:=q) (i:=3) (by omega) (by omega) (.int .i64 (rk.1:Nat)))
 replace HG:=hid (HG.out.put (q:=q) (i:=3) (by omega) (.int .i64 (rk.1:Nat)))
 replace HB:=hid (HB.out.put (q:=q) (i:=3) (by omega) (.int .i64 (rk.1:Nat)))
 replace WS:=hid (show n0≤(w9.setCell ⟨q,3,none⟩ (.int .i64 (rk.1:Nat))).heap.size from by simpa using WS.out)
 replace NB:=hid (show Bq (w9.setCell ⟨q,3,none⟩ (.int .i64 (rk.1:Nat))) n0 q (.nd ⟨#[116,97,98,108,101]⟩ rn.1 0 (rk.1:Nat) (aw s.l) []) (.slice none 0 0) from ⟨NB.out.b.set3 _,NB.out.d.put (n:=0) (fun e=>e.2 rfl) _,NB.out.l⟩)
 clear v0 v1 v2 v3 v4 v5 vz
 generalize World.setCell w9 _ _=z10 at *
 have NC:=hid (rkind_any HS.out)
 rw [HH.out] at NC
 go_upto_region 22 with (go_at_call 43;with_reducible refine Calls.mono NC.out ?_;rintro e w11 ⟨rfl,h11,g11⟩;replace HS:=hid h11;replace HG:=hid (HG.out.trans g11);replace HB:=hid (HB.out.gr g11 (by omega));replace WS:=hid (Nat.le_trans WS.out g11.size);replace NB:=hid (NB.out.gr g11 pn);obtain ⟨v0,v1,v2,v3,v4,v5,vz⟩:=(show B6 _ q (.string ⟨#[116,97,98,108,101]⟩) (.string rn.1) (.int .i64 0) (.int .i64 (rk.1:Nat)) (.int .i64 (aw s.l:Nat)) (.slice none 0 0) from NB.out.b);clear h11 g11 NC)
 replace HS:=hid (HS.out.put (q:=q) (i:=2) (by omega) (by omega) (.int .i64 (rh.1:Nat)))
 replace HG:=hid (HG.out.put (q:=q) (i:=2) (by omega) (.int .i64 (rh.1:Nat)))
 replace HB:=hid (HB.out.put (q:=q) (i:=2) (by omega) (.int .i64 (rh.1:Nat)))
 replace WS:=hid (show n0≤(w11.setCell ⟨q,2,none⟩ (.int .i64 (rh.1:Nat))).heap.size from by simpa using WS.out)
 replace NB:=hid (show Bq (w11.setCell ⟨q,2,none⟩ (.int .i64 (rh.1:Nat))) n0 q (.nd ⟨#[116,97,98,108,101]⟩ rn.1 rh.1 (rk.1:Nat) (aw s.l) []) (.slice none 0 0) from ⟨NB.out.b.set2 _,NB.out.d.put (n:=0) (fun e=>e.2 rfl) _,NB.out.l⟩)
 clear v0 v1 v2 v3 v4 v5 vz
 generalize World.setCell w11 _ _=z12 at *
 have WT:=hid (rwant_any HS.out ⟨#[123]⟩)
 go_upto_block 1 with (go_at_call 44;with_reducible refine Calls.mono WT.out ?_;rintro e w13 ⟨rfl,h13,g13⟩;replace HS:=hid h13;replace HG:=hid (HG.out.trans g13);replace HB:=hid (HB.out.gr g13 (by omega));replace WS:=hid (Nat.le_trans WS.out g13.size);replace NB:=hid (NB.out.gr g13 pn);clear h13 g13 WT)
 generalize rh.2.want ⟨#[123]⟩=z0 at *
 have TB:=hid (show Tb w w13 p b c ws d n0 q ⟨#[116,97,98,108,101]⟩ rn.1 rh.1 rk.1 (aw s.l) (.slice none 0 0) [] z0 from ⟨HS.out,HG.out,HB.out,WS.out,NB.out.b,Ky.nil _ _,by omega,by omega,wn,qn⟩)
 have RQ:Hid (rowsX 33 [] z0=rowsX 33 [] z0):=rfl
 obtain ⟨R,hRR⟩:∃ R,rowsX 33 [] z0=R:=⟨_,rfl⟩
 rw [hRR] at HR
 have RH:=hid hRR
 clear hRR RQ HS HG HB WS NB
 go_cut [6,7,8] from 64 to 101 (fun s6 s7 s8 wx=>∃ (ts:List Tr) (sa:Option Addr) (sc:Nat) (z:Sp),ts.length≤32∧Hid (Tb w wx p b c ws d n0 q ⟨#[116,97,98,108,101]⟩ rn.1 rh.1 rk.1 (aw s.l) (.slice sa ts.length sc) ts z)∧Hid (R=(ts,z)))
 case first =>
  go_wp2_with fail
  go_loopg [6] 33 (fun g ov wr=>∃ (f:Nat) (ts:List Tr) (sa:Option Addr) (sc:Nat) (z:Sp),g=33 - ts.length∧ts.length≤32∧Hid (Tb w wr p b c ws d n0 q ⟨#[116,97,98,108,101]⟩ rn.1 rh.1 rk.1 (aw s.l) (.slice sa ts.length sc) ts z)∧Hid (rowsX f ts z=R∧f+ts.length=33))
  case atStart=>exact ⟨33,[],_,_,z0,rfl,by decide,TB,⟨RH.out,rfl⟩⟩
  case round =>
   clear TB RH
   obtain ⟨f,ts,sa,sc,z,rfl,l32,TB,RI⟩:=hrel
   have FP:=hid (show 0<f from by have:=RI.out.2;omega)
   cases zb:z.b with
   | some ab =>
    have RZ:=hid (show R=(ts,z) from by rw [← RI.out.1];exact rows_bad FP.out (by unfold Sp.ok;rw [zb];rfl))
    have OKB:=hid (show ∃ a,z.b=some a from ⟨ab,zb⟩)
    obtain ⟨kx,elx,qx⟩:=TB.out.hs.ex
    have c2:=qx.c2
    rw [zb] at c2
    have c2':_=some (Value.int .i64 (ab:Nat)):=c2
    clear c2 elx qx zb RI
    have za:¬ (ab:Int)<0:=by omega
    go_wp2_with fail
    go_meet
    case rel=>exact ⟨ts,sa,sc,z,l32,TB,RZ⟩
   | none =>
    have OKN:=hid zb
    obtain ⟨kx,elx,qx⟩:=TB.out.hs.ex
    have c2:=qx.c2
    rw [zb] at c2
    have c2':_=some (Value.int .i64 (-1)):=c2
    clear c2 elx qx zb
    have IC:=hid (ris_any TB.out.hs ⟨#[101,108,115,101]⟩)
    cases ye:z.is ⟨#[101,108,115,101]⟩ with
    | true =>
     rw [ye] at IC
     have RZ:=hid (show R=(ts,z) from by rw [← RI.out.1];exact rows_else FP.out ye)
     clear ye RI
     go_wp2_with (go_at_call 46;with_reducible refine Calls.mono IC.out ?_;rintro e w5 ⟨rfl,b5⟩;replace TB:=hid (TB.out.next b5);clear b5 IC)
     go_meet
     case rel=>exact ⟨ts,sa,sc,z,l32,TB,RZ⟩
    | false =>
     rw [ye] at IC
     have YE:=hid ye
     clear ye
     go_upto_region 24 with (go_at_call 46;with_reducible refine Calls.mono IC.out ?_;rintro e w5 ⟨rfl,b5⟩;replace TB:=hid (TB.out.next b5);clear b5 IC)
     clear c2'
     have d5:=TB.out.nb.c5
     by_cases t3:ts.length=32
     ·have RZ0:=hid (show R=(ts,z.lim) from by rw [← RI.out.1];exact rows_lim FP.out (by unfold Sp.ok;rw [OKN.out];rfl) YE.out t3)
      have t32:(ts.length:Int)=32:=by omega
      have LC:=hid (rlimit_any TB.out.hs)
      clear RI t3
      go_wp2_with (go_at_call 47;with_reducible refine Calls.mono LC.out ?_;rintro e w6 ⟨rfl,h6,g6⟩;replace TB:=hid (TB.out.gr h6 g6);clear h6 g6 LC)
      go_meet
      case rel=>exact ⟨ts,sa,sc,z.lim,l32,TB,RZ0⟩
     ·have t32:¬ (ts.length:Int)=32:=by omega
      obtain ⟨ra,hra⟩:∃ ra,z.lit=ra:=⟨_,rfl⟩
      obtain ⟨rc,hrc⟩:∃ rc,(ra.2.want ⟨#[58]⟩).lit=rc:=⟨_,rfl⟩
      have RZ:=hid (show rowsX (f - 1) (ts ++ [rowT (aw z.l) [ra.1,rc.1]]) (rc.2.want ⟨#[44]⟩)=R from by rw [← RI.out.1,rows_on FP.out (by unfold Sp.ok;rw [OKN.out];rfl) YE.out t3,← hrc,← hra];rfl)
      have FL:=hid RI.out.2
      have HA1:=hid hra
      have HC1:=hid hrc
      have T3:=hid t3
      clear RI hra hrc t3
      go_upto_region 26 with fail
      clear d5 t32
      obtain ⟨n1,hn1⟩:∃ n,n=w5.heap.size:=⟨_,rfl⟩
      have q1:q<n1:=by rw [hn1];exact TB.out.nb.lt
      have wn1:w.heap.size<n1:=by omega
      have pn1:p<n1:=by omega
      have bn1:b<n1:=by omega
      have OL:=hid (show ∀ k,(Value.slice sa ts.length sc).ownBlock=some k→k<n1 from fun k e=>by rw [hn1];exact (TB.out.ky.lt k e).2)
      have HS:=hid TB.out.hs
      have HG:=hid (Gr.refl w5 p)
      have HB:=hid TB.out.hb
      have WS:=hid (Nat.le_of_eq hn1)
      have WC:=hid (rw_any HS.out)
      go_upto_region 27 with (go_at_call 40;with_reducible refine Calls.mono WC.out ?_;rintro e w61 ⟨rfl,b61⟩;replace HS:=hid (HS.out.next b61);replace HG:=hid (HG.out.below b61);replace HB:=hid (HB.out.next b61);replace WS:=hid (Nat.le_trans WS.out b61.size);clear b61 WC)
      have AL:=hid (show Below w61.heap.size w61 (w61.alloc (.cells #[.string ⟨#[114,111,119]⟩,.string ⟨#[]⟩,.int .i64 0,.int .i64 0,.int .i64 (aw z.l:Nat),.slice none 0 0] 31)) from (Below.refl _ _).alloc (Nat.le_refl _) _)
      have RB:=hid (show Bq (w61.alloc (.cells #[.string ⟨#[114,111,119]⟩,.string ⟨#[]⟩,.int .i64 0,.int .i64 0,.int .i64 (aw z.l:Nat),.slice none 0 0] 31)) n1 w61.heap.size (.nd ⟨#[114,111,119]⟩ ⟨#[]⟩ 0 0 (aw z.l) []) (.slice none 0 0) from ⟨B6.new w61 31 _ _ _ _ _ _,.nil,WS.out⟩)
      replace HS:=hid (HS.out.next AL.out)
      replace HG:=hid (HG.out.below AL.out)
      replace HB:=hid (HB.out.next AL.out)
      have rn1:n1≤w61.heap.size:=WS.out
      replace WS:=hid (Nat.le_trans WS.out AL.out.size)
      clear AL
      generalize World.alloc w61 _=yb61 at *
      generalize w61.heap.size=rb at *
      have prb:p<rb+1:=by omega
      have QL:=hid RB.out.b.lt
      have EC:=hid (rlit_any HS.out)
      rw [HA1.out] at EC
      go_upto_region 28 with (go_at_call 48;with_reducible refine Calls.mono EC.out ?_;rintro e w62 h62;obtain ⟨g62,s62,sa62,sm62,sc62,rfl,nv62⟩:=h62.parts;have NV62:=hid nv62;replace HG:=hid (HG.out.trans g62);replace HB:=hid (HB.out.gr g62 (by omega));have WO62:=WS;replace WS:=hid (Nat.le_trans WS.out g62.size);replace HS:=hid s62;replace RB:=hid (RB.out.gr g62 pn1);clear h62 g62 s62 nv62 EC)
      have BA:=hid (Bx.new (m:=rb+1) NV62.out QL.out RB.out.b.lt 31)
      have AL62:=hid (show Below w62.heap.size w62 (w62.alloc (.cells #[.string ra.1.op,.string ra.1.name,.int .i64 (ra.1.kind:Nat),.int .i64 ra.1.n,.int .i64 (ra.1.pl:Nat),.slice sa62 sm62 sc62] 31)) from (Below.refl _ _).alloc (Nat.le_refl _) _)
      replace HS:=hid (HS.out.next AL62.out)
      replace HG:=hid (HG.out.below AL62.out)
      replace HB:=hid (HB.out.next AL62.out)
      replace WS:=hid (Nat.le_trans WS.out AL62.out.size)
      replace RB:=hid (RB.out.next AL62.out)
      have ge62:rb+1≤w62.heap.size:=BA.out.l
      clear QL
      clear AL62 NV62 WO62
      generalize World.alloc w62 _=y62 at *
      generalize w62.heap.size=bBA at *
      obtain ⟨BA0,BA1,BA2,BA3,BA4,BA5,_⟩:=BA.out.b
      have WT:=hid (rwant_any HS.out ⟨#[58]⟩)
      go_upto_region 29 with (go_at_call 44;with_reducible refine Calls.mono WT.out ?_;rintro e w63 ⟨rfl,h63,g63⟩;replace HS:=hid h63;replace HG:=hid (HG.out.trans g63);replace HB:=hid (HB.out.gr g63 (by omega));replace WS:=hid (Nat.le_trans WS.out g63.size);replace RB:=hid (RB.out.gr g63 pn1);replace BA:=hid (BA.out.gr g63 prb);clear h63 g63 WT)
      have QL:=hid RB.out.b.lt
      have EC:=hid (rlit_any HS.out)
      rw [HC1.out] at EC
      go_upto_region 30 with (go_at_call 48;with_reducible refine Calls.mono EC.out ?_;rintro e w64 h64;obtain ⟨g64,s64,sa64,sm64,sc64,rfl,nv64⟩:=h64.parts;have NV64:=hid nv64;replace HG:=hid (HG.out.trans g64);replace HB:=hid (HB.out.gr g64 (by omega));have WO64:=WS;replace WS:=hid (Nat.le_trans WS.out g64.size);replace HS:=hid s64;replace RB:=hid (RB.out.gr g64 pn1);replace BA:=hid (BA.out.gr g64 prb);clear h64 g64 s64 nv64 EC)
      have BC:=hid (Bx.new (m:=rb+1) NV64.out QL.out RB.out.b.lt 31)
      have AL64:=hid (show Below w64.heap.size w64 (w64.alloc (.cells #[.string rc.1.op,.string rc.1.name,.int .i64 (rc.1.kind:Nat),.int .i64 rc.1.n,.int .i64 (rc.1.pl:Nat),.slice sa64 sm64 sc64] 31)) from (Below.refl _ _).alloc (Nat.le_refl _) _)
      replace HS:=hid (HS.out.next AL64.out)
      replace HG:=hid (HG.out.below AL64.out)
      replace HB:=hid (HB.out.next AL64.out)
      replace WS:=hid (Nat.le_trans WS.out AL64.out.size)
      replace RB:=hid (RB.out.next AL64.out)
      replace BA:=hid (BA.out.next AL64.out)
      have ge64:rb+1≤w64.heap.size:=BC.out.l
      clear QL
      clear AL64 NV64 WO64
      generalize World.alloc w64 _=y64 at *
      generalize w64.heap.size=bBC at *
      obtain ⟨BC0,BC1,BC2,BC3,BC4,BC5,_⟩:=BC.out.b
      have WT:=hid (rwant_any HS.out ⟨#[44]⟩)
      go_upto_region 31 with (go_at_call 44;with_reducible refine Calls.mono WT.out ?_;rintro e w65 ⟨rfl,h65,g65⟩;replace HS:=hid h65;replace HG:=hid (HG.out.trans g65);replace HB:=hid (HB.out.gr g65 (by omega));replace WS:=hid (Nat.le_trans WS.out g65.size);replace RB:=hid (RB.out.gr g65 pn1);replace BA:=hid (BA.out.gr g65 prb);replace BC:=hid (BC.out.gr g65 prb);clear h65 g65 WT)
      clear BA0 BA1 BA2 BA3 BA4 BA5
      obtain ⟨BA0,BA1,BA2,BA3,BA4,BA5,_⟩:=BA.out.b
      clear BC0 BC1 BC2 BC3 BC4 BC5
      obtain ⟨BC0,BC1,BC2,BC3,BC4,BC5,_⟩:=BC.out.b
      have HS7:=hid (show Below w65.heap.size w65 (w65.alloc (.cells #[.string ra.1.op,.string ra.1.name,.int .i64 (ra.1.kind:Nat),.int .i64 ra.1.n,.int .i64 (ra.1.pl:Nat),.slice sa62 sm62 sc62,.string rc.1.op,.string rc.1.name,.int .i64 (rc.1.kind:Nat),.int .i64 rc.1.n,.int .i64 (rc.1.pl:Nat),.slice sa64 sm64 sc64] 31)) from (Below.refl _ _).alloc (Nat.le_refl _) _)
      have ys:n1≤w65.heap.size:=WS.out
      have QL2:=hid RB.out.b.lt
      have CBA:=hid (show NC (w65.alloc (.cells #[.string ra.1.op,.string ra.1.name,.int .i64 (ra.1.kind:Nat),.int .i64 ra.1.n,.int .i64 (ra.1.pl:Nat),.slice sa62 sm62 sc62,.string rc.1.op,.string rc.1.name,.int .i64 (rc.1.kind:Nat),.int .i64 rc.1.n,.int .i64 (rc.1.pl:Nat),.slice sa64 sm64 sc64] 31)) w65.heap.size 0 ra.1 (.slice sa62 sm62 sc62) from ⟨by simp,by simp,by simp,by simp,by simp,by simp⟩)
      have CBC:=hid (show NC (w65.alloc (.cells #[.string ra.1.op,.string ra.1.name,.int .i64 (ra.1.kind:Nat),.int .i64 ra.1.n,.int .i64 (ra.1.pl:Nat),.slice sa62 sm62 sc62,.string rc.1.op,.string rc.1.name,.int .i64 (rc.1.kind:Nat),.int .i64 rc.1.n,.int .i64 (rc.1.pl:Nat),.slice sa64 sm64 sc64] 31)) w65.heap.size 6 rc.1 (.slice sa64 sm64 sc64) from ⟨by simp,by simp,by simp,by simp,by simp,by simp⟩)
      have NN7:=hid (nd_two2 (c:=2) (S:=fun g=>n1≤g∧g≠rb) ⟨ys,by have:=QL2.out;omega⟩ CBA.out CBC.out (BA.out.d.keep fun g s l=>⟨⟨by omega,by omega⟩,HS7.out.block g l⟩) (BC.out.d.keep fun g s l=>⟨⟨by omega,by omega⟩,HS7.out.block g l⟩))
      replace HS:=hid (HS.out.next HS7.out)
      replace HG:=hid (HG.out.below HS7.out)
      replace HB:=hid (HB.out.next HS7.out)
      replace WS:=hid (Nat.le_trans WS.out HS7.out.size)
      replace RB:=hid (RB.out.next HS7.out)
      clear HS7 QL2 CBA CBC
      obtain ⟨v0,v1,v2,v3,v4,v5,vz⟩:=(show B6 _ rb (.string ⟨#[114,111,119]⟩) (.string ⟨#[]⟩) (.int .i64 0) (.int .i64 0) (.int .i64 (aw z.l:Nat)) (.slice none 0 0) from RB.out.b)
      go_upto_region 32 with fail
      replace HS:=hid (HS.out.put (q:=rb) (i:=5) (by omega) (by omega) (.slice (some ⟨w65.heap.size,0,none⟩) 2 2))
      replace HG:=hid (HG.out.put (q:=rb) (i:=5) (by omega) (.slice (some ⟨w65.heap.size,0,none⟩) 2 2))
      replace HB:=hid (HB.out.put (q:=rb) (i:=5) (by omega) (.slice (some ⟨w65.heap.size,0,none⟩) 2 2))
      replace WS:=hid (show n1≤((w65.alloc (.cells #[.string ra.1.op,.string ra.1.name,.int .i64 (ra.1.kind:Nat),.int .i64 ra.1.n,.int .i64 (ra.1.pl:Nat),.slice sa62 sm62 sc62,.string rc.1.op,.string rc.1.name,.int .i64 (rc.1.kind:Nat),.int .i64 rc.1.n,.int .i64 (rc.1.pl:Nat),.slice sa64 sm64 sc64] 31)).setCell ⟨rb,5,none⟩ (.slice (some ⟨w65.heap.size,0,none⟩) 2 2)).heap.size from by simpa using WS.out)
      replace RB:=hid (show Bq ((w65.alloc (.cells #[.string ra.1.op,.string ra.1.name,.int .i64 (ra.1.kind:Nat),.int .i64 ra.1.n,.int .i64 (ra.1.pl:Nat),.slice sa62 sm62 sc62,.string rc.1.op,.string rc.1.name,.int .i64 (rc.1.kind:Nat),.int .i64 rc.1.n,.int .i64 (rc.1.pl:Nat),.slice sa64 sm64 sc64] 31)).setCell ⟨rb,5,none⟩ (.slice (some ⟨w65.heap.size,0,none⟩) 2 2)) n1 rb (.nd ⟨#[114,111,119]⟩ ⟨#[]⟩ 0 0 (aw z.l) [ra.1,rc.1]) (.slice (some ⟨w65.heap.size,0,none⟩) 2 2) from ⟨RB.out.b.set5 _,NN7.out.put (n:=0) (fun e=>e.2 rfl) _,RB.out.l⟩)
      clear v0 v1 v2 v3 v4 v5 vz
      generalize World.setCell (w65.alloc _) _ _=z66 at *
      clear NN7 ys BA BA0 BA1 BA2 BA3 BA4 BA5 BC BC0 BC1 BC2 BC3 BC4 BC5
      generalize w65.heap.size=bz at *
      replace TB:=hid (TB.out.gr HS.out HG.out)
      have HS8:=hid (show Below z66.heap.size z66 (z66.alloc (.cells #[.string ⟨#[114,111,119]⟩,.string ⟨#[]⟩,.int .i64 0,.int .i64 0,.int .i64 (aw z.l:Nat),.slice (some ⟨bz,0,none⟩) 2 2] 31)) from (Below.refl _ _).alloc (Nat.le_refl _) _)
      have F8:=hid (TB.out.next HS8.out)
      have C8:=hid (show NC (z66.alloc (.cells #[.string ⟨#[114,111,119]⟩,.string ⟨#[]⟩,.int .i64 0,.int .i64 0,.int .i64 (aw z.l:Nat),.slice (some ⟨bz,0,none⟩) 2 2] 31)) z66.heap.size 0 (Tr.nd ⟨#[114,111,119]⟩ ⟨#[]⟩ 0 0 (aw z.l) [ra.1,rc.1]) (.slice (some ⟨bz,0,none⟩) 2 2) from ⟨by simp;rfl,by simp;rfl,by simp;rfl,by simp;rfl,by simp;rfl,by simp⟩)
      have N8:=hid (show Nd (z66.alloc (.cells #[.string ⟨#[114,111,119]⟩,.string ⟨#[]⟩,.int .i64 0,.int .i64 0,.int .i64 (aw z.l:Nat),.slice (some ⟨bz,0,none⟩) 2 2] 31)) (fun g=>q+1≤g∧some g≠(Value.slice sa ts.length sc).ownBlock) (.slice (some ⟨bz,0,none⟩) 2 2) (Tr.nd ⟨#[114,111,119]⟩ ⟨#[]⟩ 0 0 (aw z.l) [ra.1,rc.1]).kids from RB.out.d.keep fun g s l=>⟨⟨by omega,fun e=>by have:=OL.out g e.symm;omega⟩,HS8.out.block g l⟩)
      have ba8:=hid (show q+1≤(z66.alloc (.cells #[.string ⟨#[114,111,119]⟩,.string ⟨#[]⟩,.int .i64 0,.int .i64 0,.int .i64 (aw z.l:Nat),.slice (some ⟨bz,0,none⟩) 2 2] 31)).heap.size from by have:=F8.out.nb.lt;omega)
      obtain ⟨v0,v1,v2,v3,v4,v5,vz⟩:=(show B6 _ rb (.string ⟨#[114,111,119]⟩) (.string ⟨#[]⟩) (.int .i64 0) (.int .i64 0) (.int .i64 (aw z.l:Nat)) (.slice (some ⟨bz,0,none⟩) 2 2) from RB.out.b)
      have d5:=TB.out.nb.c5
      clear TB RB HS HG HB WS HS8
      go_wp2_with (at_builtin;refine wpList_addM rfl (.tmp 97) (.tmp 99) rfl (q+1) (.slice sa ts.length sc) ts (Tr.nd ⟨#[114,111,119]⟩ ⟨#[]⟩ 0 0 (aw z.l) [ra.1,rc.1]) (.slice (some ⟨bz,0,none⟩) 2 2) rfl F8.out.ky z66.heap.size rfl C8.out N8.out (by omega) ba8.out ?_;intro v2 w90 o2 g2;obtain ⟨va,vm,vc,rfl,HVM⟩:=o2.sl3;have F9:=hid (F8.out.kid g2 o2);have m5:=(F8.out.nb.grown g2 (F8.out.off (by omega))).c5;have mz:=(F8.out.nb.grown g2 (F8.out.off (by omega))).fz 5;clear o2 g2 v0 v1 v2 v3 v4 v5 vz d5)
      go_roundg (33 - (ts ++ [rowT (aw z.l) [ra.1,rc.1]]).length)
      case measure=>rw [List.length_append];show 33 - (ts.length+1)<_;omega
      case rel =>
       have e9:=HVM.out
       subst e9
       exact ⟨f - 1,ts ++ [rowT (aw z.l) [ra.1,rc.1]],va,vc,rc.2.want ⟨#[44]⟩,rfl,by rw [List.length_append];show ts.length+1≤_;have:=T3.out;omega,F9,⟨RZ.out,by rw [List.length_append];show _+(ts.length+1)=_;have:=FL.out;have:=FP.out;omega⟩⟩
 case rest =>
  obtain ⟨ts,sa,sc,z,l32,TB,RZ⟩:=hcut
  cases zb:z.b with
  | some ab =>
   have OKB:=hid (show ∃ a,z.b=some a from ⟨ab,zb⟩)
   clear zb
   obtain ⟨kx,elx,qx⟩:=TB.out.hs.ex
   obtain ⟨ax,hax⟩:=OKB.out
   have c2:=qx.c2
   rw [hax] at c2
   have c2':_=some (Value.int .i64 (ax:Nat)):=c2
   clear c2 elx qx
   have za:¬ (ax:Int)<0:=by omega
   go_upto_region 35 with fail
   clear c2' za
   obtain ⟨rl,hrl⟩:∃ rl,((z).want ⟨#[101,108,115,101]⟩).lit=rl:=⟨_,rfl⟩
   have RE:=hid (show tabE (ts,z)=(ts ++ [rowT (aw z.l) [rl.1]],rl.2.want ⟨#[125]⟩) from by unfold tabE;rw [show z.ok=false from by unfold Sp.ok;rw [hax];rfl];simp only [Bool.false_and,Bool.false_eq_true,if_false];rw [← hrl];rfl)
   have HRL:=hid hrl
   clear hrl hax
   obtain ⟨n1,hn1⟩:∃ n,n=wc.heap.size:=⟨_,rfl⟩
   have q1:q<n1:=by rw [hn1];exact TB.out.nb.lt
   have wn1:w.heap.size<n1:=by omega
   have pn1:p<n1:=by omega
   have bn1:b<n1:=by omega
   have OL:=hid (show ∀ k,(Value.slice sa ts.length sc).ownBlock=some k→k<n1 from fun k e=>by rw [hn1];exact (TB.out.ky.lt k e).2)
   have HS:=hid TB.out.hs
   have HG:=hid (Gr.refl wc p)
   have HB:=hid TB.out.hb
   have WS:=hid (Nat.le_of_eq hn1)
   have WC:=hid (rw_any HS.out)
   go_upto_region 36 with (go_at_call 40;with_reducible refine Calls.mono WC.out ?_;rintro e w41 ⟨rfl,b41⟩;replace HS:=hid (HS.out.next b41);replace HG:=hid (HG.out.below b41);replace HB:=hid (HB.out.next b41);replace WS:=hid (Nat.le_trans WS.out b41.size);clear b41 WC)
   have AL:=hid (show Below w41.heap.size w41 (w41.alloc (.cells #[.string ⟨#[114,111,119]⟩,.string ⟨#[]⟩,.int .i64 0,.int .i64 0,.int .i64 (aw z.l:Nat),.slice none 0 0] 31)) from (Below.refl _ _).alloc (Nat.le_refl _) _)
   have RB:=hid (show Bq (w41.alloc (.cells #[.string ⟨#[114,111,119]⟩,.string ⟨#[]⟩,.int .i64 0,.int .i64 0,.int .i64 (aw z.l:Nat),.slice none 0 0] 31)) n1 w41.heap.size (.nd ⟨#[114,111,119]⟩ ⟨#[]⟩ 0 0 (aw z.l) []) (.slice none 0 0) from ⟨B6.new w41 31 _ _ _ _ _ _,.nil,WS.out⟩)
   replace HS:=hid (HS.out.next AL.out)
   replace HG:=hid (HG.out.below AL.out)
   replace HB:=hid (HB.out.next AL.out)
   have rn1:n1≤w41.heap.size:=WS.out
   replace WS:=hid (Nat.le_trans WS.out AL.out.size)
   clear AL
   generalize World.alloc w41 _=yb41 at *
   generalize w41.heap.size=rb at *
   have prb:p<rb+1:=by omega
   have WT:=hid (rwant_any HS.out ⟨#[101,108,115,101]⟩)
   go_upto_region 37 with (go_at_call 44;with_reducible refine Calls.mono WT.out ?_;rintro e w42 ⟨rfl,h42,g42⟩;replace HS:=hid h42;replace HG:=hid (HG.out.trans g42);replace HB:=hid (HB.out.gr g42 (by omega));replace WS:=hid (Nat.le_trans WS.out g42.size);replace RB:=hid (RB.out.gr g42 pn1);clear h42 g42 WT)
   have QL:=hid RB.out.b.lt
   have EC:=hid (rlit_any HS.out)
   rw [HRL.out] at EC
   go_upto_region 38 with (go_at_call 48;with_reducible refine Calls.mono EC.out ?_;rintro e w43 h43;obtain ⟨g43,s43,sa43,sm43,sc43,rfl,nv43⟩:=h43.parts;have NV43:=hid nv43;replace HG:=hid (HG.out.trans g43);replace HB:=hid (HB.out.gr g43 (by omega));have WO43:=WS;replace WS:=hid (Nat.le_trans WS.out g43.size);replace HS:=hid s43;replace RB:=hid (RB.out.gr g43 pn1);clear h43 g43 s43 nv43 EC)
   have BL:=hid (Bx.new (m:=rb+1) NV43.out QL.out RB.out.b.lt 31)
   have AL43:=hid (show Below w43.heap.size w43 (w43.alloc (.cells #[.string rl.1.op,.string rl.1.name,.int .i64 (rl.1.kind:Nat),.int .i64 rl.1.n,.int .i64 (rl.1.pl:Nat),.slice sa43 sm43 sc43] 31)) from (Below.refl _ _).alloc (Nat.le_refl _) _)
   replace HS:=hid (HS.out.next AL43.out)
   replace HG:=hid (HG.out.below AL43.out)
   replace HB:=hid (HB.out.next AL43.out)
   replace WS:=hid (Nat.le_trans WS.out AL43.out.size)
   replace RB:=hid (RB.out.next AL43.out)
   have ge43:rb+1≤w43.heap.size:=BL.out.l
   clear QL
   clear AL43 NV43 WO43
   generalize World.alloc w43 _=y43 at *
   generalize w43.heap.size=bBL at *
   obtain ⟨BL0,BL1,BL2,BL3,BL4,BL5,_⟩:=BL.out.b
   clear BL0 BL1 BL2 BL3 BL4 BL5
   obtain ⟨BL0,BL1,BL2,BL3,BL4,BL5,_⟩:=BL.out.b
   have HS7:=hid (show Below y43.heap.size y43 (y43.alloc (.cells #[.string rl.1.op,.string rl.1.name,.int .i64 (rl.1.kind:Nat),.int .i64 rl.1.n,.int .i64 (rl.1.pl:Nat),.slice sa43 sm43 sc43] 31)) from (Below.refl _ _).alloc (Nat.le_refl _) _)
   have ys:n1≤y43.heap.size:=WS.out
   have QL2:=hid RB.out.b.lt
   have CBL:=hid (show NC (y43.alloc (.cells #[.string rl.1.op,.string rl.1.name,.int .i64 (rl.1.kind:Nat),.int .i64 rl.1.n,.int .i64 (rl.1.pl:Nat),.slice sa43 sm43 sc43] 31)) y43.heap.size 0 rl.1 (.slice sa43 sm43 sc43) from ⟨by simp,by simp,by simp,by simp,by simp,by simp⟩)
   have NN7:=hid (nd_one1 (c:=1) (S:=fun g=>n1≤g∧g≠rb) ⟨ys,by have:=QL2.out;omega⟩ CBL.out (BL.out.d.keep fun g s l=>⟨⟨by omega,by omega⟩,HS7.out.block g l⟩))
   replace HS:=hid (HS.out.next HS7.out)
   replace HG:=hid (HG.out.below HS7.out)
   replace HB:=hid (HB.out.next HS7.out)
   replace WS:=hid (Nat.le_trans WS.out HS7.out.size)
   replace RB:=hid (RB.out.next HS7.out)
   clear HS7 QL2 CBL
   obtain ⟨v0,v1,v2,v3,v4,v5,vz⟩:=(show B6 _ rb (.string ⟨#[114,111,119]⟩) (.string ⟨#[]⟩) (.int .i64 0) (.int .i64 0) (.int .i64 (aw z.l:Nat)) (.slice none 0 0) from RB.out.b)
   go_upto_region 39 with fail
   replace HS:=hid (HS.out.put (q:=rb) (i:=5) (by omega) (by omega) (.slice (some ⟨y43.heap.size,0,none⟩) 1 1))
   replace HG:=hid (HG.out.put (q:=rb) (i:=5) (by omega) (.slice (some ⟨y43.heap.size,0,none⟩) 1 1))
   replace HB:=hid (HB.out.put (q:=rb) (i:=5) (by omega) (.slice (some ⟨y43.heap.size,0,none⟩) 1 1))
   replace WS:=hid (show n1≤((y43.alloc (.cells #[.string rl.1.op,.string rl.1.name,.int .i64 (rl.1.kind:Nat),.int .i64 rl.1.n,.int .i64 (rl.1.pl:Nat),.slice sa43 sm43 sc43] 31)).setCell ⟨rb,5,none⟩ (.slice (some ⟨y43.heap.size,0,none⟩) 1 1)).heap.size from by simpa using WS.out)
   replace RB:=hid (show Bq ((y43.alloc (.cells #[.string rl.1.op,.string rl.1.name,.int .i64 (rl.1.kind:Nat),.int .i64 rl.1.n,.int .i64 (rl.1.pl:Nat),.slice sa43 sm43 sc43] 31)).setCell ⟨rb,5,none⟩ (.slice (some ⟨y43.heap.size,0,none⟩) 1 1)) n1 rb (.nd ⟨#[114,111,119]⟩ ⟨#[]⟩ 0 0 (aw z.l) [rl.1]) (.slice (some ⟨y43.heap.size,0,none⟩) 1 1) from ⟨RB.out.b.set5 _,NN7.out.put (n:=0) (fun e=>e.2 rfl) _,RB.out.l⟩)
   clear v0 v1 v2 v3 v4 v5 vz
   generalize World.setCell (y43.alloc _) _ _=z44 at *
   clear NN7 ys BL BL0 BL1 BL2 BL3 BL4 BL5
   generalize y43.heap.size=bz at *
   replace TB:=hid (TB.out.gr HS.out HG.out)
   have HS8:=hid (show Below z44.heap.size z44 (z44.alloc (.cells #[.string ⟨#[114,111,119]⟩,.string ⟨#[]⟩,.int .i64 0,.int .i64 0,.int .i64 (aw z.l:Nat),.slice (some ⟨bz,0,none⟩) 1 1] 31)) from (Below.refl _ _).alloc (Nat.le_refl _) _)
   have F8:=hid (TB.out.next HS8.out)
   have C8:=hid (show NC (z44.alloc (.cells #[.string ⟨#[114,111,119]⟩,.string ⟨#[]⟩,.int .i64 0,.int .i64 0,.int .i64 (aw z.l:Nat),.slice (some ⟨bz,0,none⟩) 1 1] 31)) z44.heap.size 0 (Tr.nd ⟨#[114,111,119]⟩ ⟨#[]⟩ 0 0 (aw z.l) [rl.1]) (.slice (some ⟨bz,0,none⟩) 1 1) from ⟨by simp;rfl,by simp;rfl,by simp;rfl,by simp;rfl,by simp;rfl,by simp⟩)
   have N8:=hid (show Nd (z44.alloc (.cells #[.string ⟨#[114,111,119]⟩,.string ⟨#[]⟩,.int .i64 0,.int .i64 0,.int .i64 (aw z.l:Nat),.slice (some ⟨bz,0,none⟩) 1 1] 31)) (fun g=>q+1≤g∧some g≠(Value.slice sa ts.length sc).ownBlock) (.slice (some ⟨bz,0,none⟩) 1 1) (Tr.nd ⟨#[114,111,119]⟩ ⟨#[]⟩ 0 0 (aw z.l) [rl.1]).kids from RB.out.d.keep fun g s l=>⟨⟨by omega,fun e=>by have:=OL.out g e.symm;omega⟩,HS8.out.block g l⟩)
   have ba8:=hid (show q+1≤(z44.alloc (.cells #[.string ⟨#[114,111,119]⟩,.string ⟨#[]⟩,.int .i64 0,.int .i64 0,.int .i64 (aw z.l:Nat),.slice (some ⟨bz,0,none⟩) 1 1] 31)).heap.size from by have:=F8.out.nb.lt;omega)
   obtain ⟨v0,v1,v2,v3,v4,v5,vz⟩:=(show B6 _ rb (.string ⟨#[114,111,119]⟩) (.string ⟨#[]⟩) (.int .i64 0) (.int .i64 0) (.int .i64 (aw z.l:Nat)) (.slice (some ⟨bz,0,none⟩) 1 1) from RB.out.b)
   have d5:=TB.out.nb.c5
   clear TB RB HS HG HB WS HS8
   go_upto_region 40 with (at_builtin;refine wpList_addM rfl (.tmp 127) (.tmp 129) rfl (q+1) (.slice sa ts.length sc) ts (Tr.nd ⟨#[114,111,119]⟩ ⟨#[]⟩ 0 0 (aw z.l) [rl.1]) (.slice (some ⟨bz,0,none⟩) 1 1) rfl F8.out.ky z44.heap.size rfl C8.out N8.out (by omega) ba8.out ?_;intro v2 w90 o2 g2;obtain ⟨va,vm,vc,rfl,HVM⟩:=o2.sl3;have F9:=hid (F8.out.kid g2 o2);have m5:=(F8.out.nb.grown g2 (F8.out.off (by omega))).c5;have mz:=(F8.out.nb.grown g2 (F8.out.off (by omega))).fz 5;clear o2 g2 v0 v1 v2 v3 v4 v5 vz d5)
   generalize World.setCell w90 _ _=w91 at *
   clear m5 mz F8 C8 N8 ba8
   have WT:=hid (rwant_any F9.out.hs ⟨#[125]⟩)
   go_upto_region 41 with (go_at_call 44;with_reducible refine Calls.mono WT.out ?_;rintro e w92 ⟨rfl,h92,g92⟩;replace F9:=hid (F9.out.gr h92 g92);clear h92 g92 WT)
   have RF:=hid (show rr=(ts ++ [rowT (aw (z).l) [rl.1]],rl.2.want ⟨#[125]⟩) from by rw [← HR.out,RZ.out,RE.out])
   clear HR RZ RE HRL hn1
   obtain ⟨bu0,bu1,bu2,bu3,bu4,bu5,buz⟩:=F9.out.hb
   obtain ⟨v0,v1,v2,v3,v4,v5,vz⟩:=F9.out.nb
   have BF:=hid (F9.out.hb.sets (.string ⟨#[116,97,98,108,101]⟩) (.string rn.1) (.int .i64 (rh.1:Nat)) (.int .i64 (rk.1:Nat)) (.int .i64 (aw s.l:Nat)) (.slice va vm vc))
   have SF:=hid (F9.out.hs.put6 (q:=w.heap.size) (by omega) (by omega) (.string ⟨#[116,97,98,108,101]⟩) (.string rn.1) (.int .i64 (rh.1:Nat)) (.int .i64 (rk.1:Nat)) (.int .i64 (aw s.l:Nat)) (.slice va vm vc))
   have GF:=hid (F9.out.hg.put6 (q:=w.heap.size) (by omega) (.string ⟨#[116,97,98,108,101]⟩) (.string rn.1) (.int .i64 (rh.1:Nat)) (.int .i64 (rk.1:Nat)) (.int .i64 (aw s.l:Nat)) (.slice va vm vc))
   have NF:=hid (Nd.put6x (q:=w.heap.size) (m:=w.heap.size) F9.out.ky.nd (by omega) (by omega) (.string ⟨#[116,97,98,108,101]⟩) (.string rn.1) (.int .i64 (rh.1:Nat)) (.int .i64 (rk.1:Nat)) (.int .i64 (aw s.l:Nat)) (.slice va vm vc))
   go_wp2_with fail
   generalize World.setCell _ ⟨w.heap.size,5,none⟩ _=wf at *
   obtain ⟨q0,q1,q2,q3,q4,q5,_⟩:=BF.out
   exact bodyPost_ret (v:=.agg #[.string ⟨#[116,97,98,108,101]⟩,.string rn.1,.int .i64 (rh.1:Nat),.int .i64 (rk.1:Nat),.int .i64 (aw s.l:Nat),.slice va vm vc]) (by simp [results,Tryd.results26,go_sem,q0,q1,q2,q3,q4,q5]) rfl (by rw [RF.out];exact ⟨GF.out,SF.out,_,rfl,_,rfl,NF.out⟩)
  | none =>
   have OKN:=hid zb
   clear zb
   by_cases t3:ts.length=32
   ·have L32:=hid t3
    have t3i:(ts.length:Int)=32:=by omega
    clear t3
    obtain ⟨kx,elx,qx⟩:=TB.out.hs.ex
    have c2:=qx.c2
    rw [OKN.out] at c2
    have c2':_=some (Value.int .i64 (-1)):=c2
    clear c2 elx qx
    have d5:=TB.out.nb.c5
    have t32:=t3i
    clear t3i
    have LC:=hid (rlimit_any TB.out.hs)
    go_upto_region 35 with (go_at_call 47;with_reducible refine Calls.mono LC.out ?_;rintro e w38 ⟨rfl,h38,g38⟩;replace TB:=hid (TB.out.gr h38 g38);clear h38 g38 LC)
    clear c2' d5 t32
    obtain ⟨zl,hzl⟩:∃ zl,z.lim=zl:=⟨_,rfl⟩
    rw [hzl] at TB
    obtain ⟨rl,hrl⟩:∃ rl,((zl).want ⟨#[101,108,115,101]⟩).lit=rl:=⟨_,rfl⟩
    have RE:=hid (show tabE (ts,z)=(ts ++ [rowT (aw zl.l) [rl.1]],rl.2.want ⟨#[125]⟩) from by unfold tabE;rw [show z.ok=true from by unfold Sp.ok;rw [OKN.out];rfl];simp only [Bool.true_and,beq_iff_eq];rw [if_pos L32.out,← hrl,← hzl];rfl)
    have HRL:=hid hrl
    clear hrl hzl
    obtain ⟨n1,hn1⟩:∃ n,n=w38.heap.size:=⟨_,rfl⟩
    have q1:q<n1:=by rw [hn1];exact TB.out.nb.lt
    have wn1:w.heap.size<n1:=by omega
    have pn1:p<n1:=by omega
    have bn1:b<n1:=by omega
    have OL:=hid (show ∀ k,(Value.slice sa ts.length sc).ownBlock=some k→k<n1 from fun k e=>by rw [hn1];exact (TB.out.ky.lt k e).2)
    have HS:=hid TB.out.hs
    have HG:=hid (Gr.refl w38 p)
    have HB:=hid TB.out.hb
    have WS:=hid (Nat.le_of_eq hn1)
    have WC:=hid (rw_any HS.out)
    go_upto_region 36 with (go_at_call 40;with_reducible refine Calls.mono WC.out ?_;rintro e w41 ⟨rfl,b41⟩;replace HS:=hid (HS.out.next b41);replace HG:=hid (HG.out.below b41);replace HB:=hid (HB.out.next b41);replace WS:=hid (Nat.le_trans WS.out b41.size);clear b41 WC)
    have AL:=hid (show Below w41.heap.size w41 (w41.alloc (.cells #[.string ⟨#[114,111,119]⟩,.string ⟨#[]⟩,.int .i64 0,.int .i64 0,.int .i64 (aw zl.l:Nat),.slice none 0 0] 31)) from (Below.refl _ _).alloc (Nat.le_refl _) _)
    have RB:=hid (show Bq (w41.alloc (.cells #[.string ⟨#[114,111,119]⟩,.string ⟨#[]⟩,.int .i64 0,.int .i64 0,.int .i64 (aw zl.l:Nat),.slice none 0 0] 31)) n1 w41.heap.size (.nd ⟨#[114,111,119]⟩ ⟨#[]⟩ 0 0 (aw zl.l) []) (.slice none 0 0) from ⟨B6.new w41 31 _ _ _ _ _ _,.nil,WS.out⟩)
    replace HS:=hid (HS.out.next AL.out)
    replace HG:=hid (HG.out.below AL.out)
    replace HB:=hid (HB.out.next AL.out)
    have rn1:n1≤w41.heap.size:=WS.out
    replace WS:=hid (Nat.le_trans WS.out AL.out.size)
    clear AL
    generalize World.alloc w41 _=yb41 at *
    generalize w41.heap.size=rb at *
    have prb:p<rb+1:=by omega
    have WT:=hid (rwant_any HS.out ⟨#[101,108,115,101]⟩)
    go_upto_region 37 with (go_at_call 44;with_reducible refine Calls.mono WT.out ?_;rintro e w42 ⟨rfl,h42,g42⟩;replace HS:=hid h42;replace HG:=hid (HG.out.trans g42);replace HB:=hid (HB.out.gr g42 (by omega));replace WS:=hid (Nat.le_trans WS.out g42.size);replace RB:=hid (RB.out.gr g42 pn1);clear h42 g42 WT)
    have QL:=hid RB.out.b.lt
    have EC:=hid (rlit_any HS.out)
    rw [HRL.out] at EC
    go_upto_region 38 with (go_at_call 48;with_reducible refine Calls.mono EC.out ?_;rintro e w43 h43;obtain ⟨g43,s43,sa43,sm43,sc43,rfl,nv43⟩:=h43.parts;have NV43:=hid nv43;replace HG:=hid (HG.out.trans g43);replace HB:=hid (HB.out.gr g43 (by omega));have WO43:=WS;replace WS:=hid (Nat.le_trans WS.out g43.size);replace HS:=hid s43;replace RB:=hid (RB.out.gr g43 pn1);clear h43 g43 s43 nv43 EC)
    have BL:=hid (Bx.new (m:=rb+1) NV43.out QL.out RB.out.b.lt 31)
    have AL43:=hid (show Below w43.heap.size w43 (w43.alloc (.cells #[.string rl.1.op,.string rl.1.name,.int .i64 (rl.1.kind:Nat),.int .i64 rl.1.n,.int .i64 (rl.1.pl:Nat),.slice sa43 sm43 sc43] 31)) from (Below.refl _ _).alloc (Nat.le_refl _) _)
    replace HS:=hid (HS.out.next AL43.out)
    replace HG:=hid (HG.out.below AL43.out)
    replace HB:=hid (HB.out.next AL43.out)
    replace WS:=hid (Nat.le_trans WS.out AL43.out.size)
    replace RB:=hid (RB.out.next AL43.out)
    have ge43:rb+1≤w43.heap.size:=BL.out.l
    clear QL
    clear AL43 NV43 WO43
    generalize World.alloc w43 _=y43 at *
    generalize w43.heap.size=bBL at *
    obtain ⟨BL0,BL1,BL2,BL3,BL4,BL5,_⟩:=BL.out.b
    clear BL0 BL1 BL2 BL3 BL4 BL5
    obtain ⟨BL0,BL1,BL2,BL3,BL4,BL5,_⟩:=BL.out.b
    have HS7:=hid (show Below y43.heap.size y43 (y43.alloc (.cells #[.string rl.1.op,.string rl.1.name,.int .i64 (rl.1.kind:Nat),.int .i64 rl.1.n,.int .i64 (rl.1.pl:Nat),.slice sa43 sm43 sc43] 31)) from (Below.refl _ _).alloc (Nat.le_refl _) _)
    have ys:n1≤y43.heap.size:=WS.out
    have QL2:=hid RB.out.b.lt
    have CBL:=hid (show NC (y43.alloc (.cells #[.string rl.1.op,.string rl.1.name,.int .i64 (rl.1.kind:Nat),.int .i64 rl.1.n,.int .i64 (rl.1.pl:Nat),.slice sa43 sm43 sc43] 31)) y43.heap.size 0 rl.1 (.slice sa43 sm43 sc43) from ⟨by simp,by simp,by simp,by simp,by simp,by simp⟩)
    have NN7:=hid (nd_one1 (c:=1) (S:=fun g=>n1≤g∧g≠rb) ⟨ys,by have:=QL2.out;omega⟩ CBL.out (BL.out.d.keep fun g s l=>⟨⟨by omega,by omega⟩,HS7.out.block g l⟩))
    replace HS:=hid (HS.out.next HS7.out)
    replace HG:=hid (HG.out.below HS7.out)
    replace HB:=hid (HB.out.next HS7.out)
    replace WS:=hid (Nat.le_trans WS.out HS7.out.size)
    replace RB:=hid (RB.out.next HS7.out)
    clear HS7 QL2 CBL
    obtain ⟨v0,v1,v2,v3,v4,v5,vz⟩:=(show B6 _ rb (.string ⟨#[114,111,119]⟩) (.string ⟨#[]⟩) (.int .i64 0) (.int .i64 0) (.int .i64 (aw zl.l:Nat)) (.slice none 0 0) from RB.out.b)
    go_upto_region 39 with fail
    replace HS:=hid (HS.out.put (q:=rb) (i:=5) (by omega) (by omega) (.slice (some ⟨y43.heap.size,0,none⟩) 1 1))
    replace HG:=hid (HG.out.put (q:=rb) (i:=5) (by omega) (.slice (some ⟨y43.heap.size,0,none⟩) 1 1))
    replace HB:=hid (HB.out.put (q:=rb) (i:=5) (by omega) (.slice (some ⟨y43.heap.size,0,none⟩) 1 1))
    replace WS:=hid (show n1≤((y43.alloc (.cells #[.string rl.1.op,.string rl.1.name,.int .i64 (rl.1.kind:Nat),.int .i64 rl.1.n,.int .i64 (rl.1.pl:Nat),.slice sa43 sm43 sc43] 31)).setCell ⟨rb,5,none⟩ (.slice (some ⟨y43.heap.size,0,none⟩) 1 1)).heap.size from by simpa using WS.out)
    replace RB:=hid (show Bq ((y43.alloc (.cells #[.string rl.1.op,.string rl.1.name,.int .i64 (rl.1.kind:Nat),.int .i64 rl.1.n,.int .i64 (rl.1.pl:Nat),.slice sa43 sm43 sc43] 31)).setCell ⟨rb,5,none⟩ (.slice (some ⟨y43.heap.size,0,none⟩) 1 1)) n1 rb (.nd ⟨#[114,111,119]⟩ ⟨#[]⟩ 0 0 (aw zl.l) [rl.1]) (.slice (some ⟨y43.heap.size,0,none⟩) 1 1) from ⟨RB.out.b.set5 _,NN7.out.put (n:=0) (fun e=>e.2 rfl) _,RB.out.l⟩)
    clear v0 v1 v2 v3 v4 v5 vz
    generalize World.setCell (y43.alloc _) _ _=z44 at *
    clear NN7 ys BL BL0 BL1 BL2 BL3 BL4 BL5
    generalize y43.heap.size=bz at *
    replace TB:=hid (TB.out.gr HS.out HG.out)
    have HS8:=hid (show Below z44.heap.size z44 (z44.alloc (.cells #[.string ⟨#[114,111,119]⟩,.string ⟨#[]⟩,.int .i64 0,.int .i64 0,.int .i64 (aw zl.l:Nat),.slice (some ⟨bz,0,none⟩) 1 1] 31)) from (Below.refl _ _).alloc (Nat.le_refl _) _)
    have F8:=hid (TB.out.next HS8.out)
    have C8:=hid (show NC (z44.alloc (.cells #[.string ⟨#[114,111,119]⟩,.string ⟨#[]⟩,.int .i64 0,.int .i64 0,.int .i64 (aw zl.l:Nat),.slice (some ⟨bz,0,none⟩) 1 1] 31)) z44.heap.size 0 (Tr.nd ⟨#[114,111,119]⟩ ⟨#[]⟩ 0 0 (aw zl.l) [rl.1]) (.slice (some ⟨bz,0,none⟩) 1 1) from ⟨by simp;rfl,by simp;rfl,by simp;rfl,by simp;rfl,by simp;rfl,by simp⟩)
    have N8:=hid (show Nd (z44.alloc (.cells #[.string ⟨#[114,111,119]⟩,.string ⟨#[]⟩,.int .i64 0,.int .i64 0,.int .i64 (aw zl.l:Nat),.slice (some ⟨bz,0,none⟩) 1 1] 31)) (fun g=>q+1≤g∧some g≠(Value.slice sa ts.length sc).ownBlock) (.slice (some ⟨bz,0,none⟩) 1 1) (Tr.nd ⟨#[114,111,119]⟩ ⟨#[]⟩ 0 0 (aw zl.l) [rl.1]).kids from RB.out.d.keep fun g s l=>⟨⟨by omega,fun e=>by have:=OL.out g e.symm;omega⟩,HS8.out.block g l⟩)
    have ba8:=hid (show q+1≤(z44.alloc (.cells #[.string ⟨#[114,111,119]⟩,.string ⟨#[]⟩,.int .i64 0,.int .i64 0,.int .i64 (aw zl.l:Nat),.slice (some ⟨bz,0,none⟩) 1 1] 31)).heap.size from by have:=F8.out.nb.lt;omega)
    obtain ⟨v0,v1,v2,v3,v4,v5,vz⟩:=(show B6 _ rb (.string ⟨#[114,111,119]⟩) (.string ⟨#[]⟩) (.int .i64 0) (.int .i64 0) (.int .i64 (aw zl.l:Nat)) (.slice (some ⟨bz,0,none⟩) 1 1) from RB.out.b)
    have d5:=TB.out.nb.c5
    clear TB RB HS HG HB WS HS8
    go_upto_region 40 with (at_builtin;refine wpList_addM rfl (.tmp 127) (.tmp 129) rfl (q+1) (.slice sa ts.length sc) ts (Tr.nd ⟨#[114,111,119]⟩ ⟨#[]⟩ 0 0 (aw zl.l) [rl.1]) (.slice (some ⟨bz,0,none⟩) 1 1) rfl F8.out.ky z44.heap.size rfl C8.out N8.out (by omega) ba8.out ?_;intro v2 w90 o2 g2;obtain ⟨va,vm,vc,rfl,HVM⟩:=o2.sl3;have F9:=hid (F8.out.kid g2 o2);have m5:=(F8.out.nb.grown g2 (F8.out.off (by omega))).c5;have mz:=(F8.out.nb.grown g2 (F8.out.off (by omega))).fz 5;clear o2 g2 v0 v1 v2 v3 v4 v5 vz d5)
    generalize World.setCell w90 _ _=w91 at *
    clear m5 mz F8 C8 N8 ba8
    have WT:=hid (rwant_any F9.out.hs ⟨#[125]⟩)
    go_upto_region 41 with (go_at_call 44;with_reducible refine Calls.mono WT.out ?_;rintro e w92 ⟨rfl,h92,g92⟩;replace F9:=hid (F9.out.gr h92 g92);clear h92 g92 WT)
    have RF:=hid (show rr=(ts ++ [rowT (aw (zl).l) [rl.1]],rl.2.want ⟨#[125]⟩) from by rw [← HR.out,RZ.out,RE.out])
    clear HR RZ RE HRL hn1
    obtain ⟨bu0,bu1,bu2,bu3,bu4,bu5,buz⟩:=F9.out.hb
    obtain ⟨v0,v1,v2,v3,v4,v5,vz⟩:=F9.out.nb
    have BF:=hid (F9.out.hb.sets (.string ⟨#[116,97,98,108,101]⟩) (.string rn.1) (.int .i64 (rh.1:Nat)) (.int .i64 (rk.1:Nat)) (.int .i64 (aw s.l:Nat)) (.slice va vm vc))
    have SF:=hid (F9.out.hs.put6 (q:=w.heap.size) (by omega) (by omega) (.string ⟨#[116,97,98,108,101]⟩) (.string rn.1) (.int .i64 (rh.1:Nat)) (.int .i64 (rk.1:Nat)) (.int .i64 (aw s.l:Nat)) (.slice va vm vc))
    have GF:=hid (F9.out.hg.put6 (q:=w.heap.size) (by omega) (.string ⟨#[116,97,98,108,101]⟩) (.string rn.1) (.int .i64 (rh.1:Nat)) (.int .i64 (rk.1:Nat)) (.int .i64 (aw s.l:Nat)) (.slice va vm vc))
    have NF:=hid (Nd.put6x (q:=w.heap.size) (m:=w.heap.size) F9.out.ky.nd (by omega) (by omega) (.string ⟨#[116,97,98,108,101]⟩) (.string rn.1) (.int .i64 (rh.1:Nat)) (.int .i64 (rk.1:Nat)) (.int .i64 (aw s.l:Nat)) (.slice va vm vc))
    go_wp2_with fail
    generalize World.setCell _ ⟨w.heap.size,5,none⟩ _=wf at *
    obtain ⟨q0,q1,q2,q3,q4,q5,_⟩:=BF.out
    exact bodyPost_ret (v:=.agg #[.string ⟨#[116,97,98,108,101]⟩,.string rn.1,.int .i64 (rh.1:Nat),.int .i64 (rk.1:Nat),.int .i64 (aw s.l:Nat),.slice va vm vc]) (by simp [results,Tryd.results26,go_sem,q0,q1,q2,q3,q4,q5]) rfl (by rw [RF.out];exact ⟨GF.out,SF.out,_,rfl,_,rfl,NF.out⟩)
   ·have L32:=hid t3
    have t3i:¬ (ts.length:Int)=32:=by omega
    clear t3
    obtain ⟨kx,elx,qx⟩:=TB.out.hs.ex
    have c2:=qx.c2
    rw [OKN.out] at c2
    have c2':_=some (Value.int .i64 (-1)):=c2
    clear c2 elx qx
    have d5:=TB.out.nb.c5
    have t32:=t3i
    clear t3i
    go_upto_region 35 with fail
    clear c2' d5 t32
    obtain ⟨rl,hrl⟩:∃ rl,((z).want ⟨#[101,108,115,101]⟩).lit=rl:=⟨_,rfl⟩
    have RE:=hid (show tabE (ts,z)=(ts ++ [rowT (aw z.l) [rl.1]],rl.2.want ⟨#[125]⟩) from by unfold tabE;rw [show z.ok=true from by unfold Sp.ok;rw [OKN.out];rfl];simp only [Bool.true_and,beq_iff_eq];rw [if_neg L32.out,← hrl];rfl)
    have HRL:=hid hrl
    clear hrl
    obtain ⟨n1,hn1⟩:∃ n,n=wc.heap.size:=⟨_,rfl⟩
    have q1:q<n1:=by rw [hn1];exact TB.out.nb.lt
    have wn1:w.heap.size<n1:=by omega
    have pn1:p<n1:=by omega
    have bn1:b<n1:=by omega
    have OL:=hid (show ∀ k,(Value.slice sa ts.length sc).ownBlock=some k→k<n1 from fun k e=>by rw [hn1];exact (TB.out.ky.lt k e).2)
    have HS:=hid TB.out.hs
    have HG:=hid (Gr.refl wc p)
    have HB:=hid TB.out.hb
    have WS:=hid (Nat.le_of_eq hn1)
    have WC:=hid (rw_any HS.out)
    go_upto_region 36 with (go_at_call 40;with_reducible refine Calls.mono WC.out ?_;rintro e w41 ⟨rfl,b41⟩;replace HS:=hid (HS.out.next b41);replace HG:=hid (HG.out.below b41);replace HB:=hid (HB.out.next b41);replace WS:=hid (Nat.le_trans WS.out b41.size);clear b41 WC)
    have AL:=hid (show Below w41.heap.size w41 (w41.alloc (.cells #[.string ⟨#[114,111,119]⟩,.string ⟨#[]⟩,.int .i64 0,.int .i64 0,.int .i64 (aw z.l:Nat),.slice none 0 0] 31)) from (Below.refl _ _).alloc (Nat.le_refl _) _)
    have RB:=hid (show Bq (w41.alloc (.cells #[.string ⟨#[114,111,119]⟩,.string ⟨#[]⟩,.int .i64 0,.int .i64 0,.int .i64 (aw z.l:Nat),.slice none 0 0] 31)) n1 w41.heap.size (.nd ⟨#[114,111,119]⟩ ⟨#[]⟩ 0 0 (aw z.l) []) (.slice none 0 0) from ⟨B6.new w41 31 _ _ _ _ _ _,.nil,WS.out⟩)
    replace HS:=hid (HS.out.next AL.out)
    replace HG:=hid (HG.out.below AL.out)
    replace HB:=hid (HB.out.next AL.out)
    have rn1:n1≤w41.heap.size:=WS.out
    replace WS:=hid (Nat.le_trans WS.out AL.out.size)
    clear AL
    generalize World.alloc w41 _=yb41 at *
    generalize w41.heap.size=rb at *
    have prb:p<rb+1:=by omega
    have WT:=hid (rwant_any HS.out ⟨#[101,108,115,101]⟩)
    go_upto_region 37 with (go_at_call 44;with_reducible refine Calls.mono WT.out ?_;rintro e w42 ⟨rfl,h42,g42⟩;replace HS:=hid h42;replace HG:=hid (HG.out.trans g42);replace HB:=hid (HB.out.gr g42 (by omega));replace WS:=hid (Nat.le_trans WS.out g42.size);replace RB:=hid (RB.out.gr g42 pn1);clear h42 g42 WT)
    have QL:=hid RB.out.b.lt
    have EC:=hid (rlit_any HS.out)
    rw [HRL.out] at EC
    go_upto_region 38 with (go_at_call 48;with_reducible refine Calls.mono EC.out ?_;rintro e w43 h43;obtain ⟨g43,s43,sa43,sm43,sc43,rfl,nv43⟩:=h43.parts;have NV43:=hid nv43;replace HG:=hid (HG.out.trans g43);replace HB:=hid (HB.out.gr g43 (by omega));have WO43:=WS;replace WS:=hid (Nat.le_trans WS.out g43.size);replace HS:=hid s43;replace RB:=hid (RB.out.gr g43 pn1);clear h43 g43 s43 nv43 EC)
    have BL:=hid (Bx.new (m:=rb+1) NV43.out QL.out RB.out.b.lt 31)
    have AL43:=hid (show Below w43.heap.size w43 (w43.alloc (.cells #[.string rl.1.op,.string rl.1.name,.int .i64 (rl.1.kind:Nat),.int .i64 rl.1.n,.int .i64 (rl.1.pl:Nat),.slice sa43 sm43 sc43] 31)) from (Below.refl _ _).alloc (Nat.le_refl _) _)
    replace HS:=hid (HS.out.next AL43.out)
    replace HG:=hid (HG.out.below AL43.out)
    replace HB:=hid (HB.out.next AL43.out)
    replace WS:=hid (Nat.le_trans WS.out AL43.out.size)
    replace RB:=hid (RB.out.next AL43.out)
    have ge43:rb+1≤w43.heap.size:=BL.out.l
    clear QL
    clear AL43 NV43 WO43
    generalize World.alloc w43 _=y43 at *
    generalize w43.heap.size=bBL at *
    obtain ⟨BL0,BL1,BL2,BL3,BL4,BL5,_⟩:=BL.out.b
    clear BL0 BL1 BL2 BL3 BL4 BL5
    obtain ⟨BL0,BL1,BL2,BL3,BL4,BL5,_⟩:=BL.out.b
    have HS7:=hid (show Below y43.heap.size y43 (y43.alloc (.cells #[.string rl.1.op,.string rl.1.name,.int .i64 (rl.1.kind:Nat),.int .i64 rl.1.n,.int .i64 (rl.1.pl:Nat),.slice sa43 sm43 sc43] 31)) from (Below.refl _ _).alloc (Nat.le_refl _) _)
    have ys:n1≤y43.heap.size:=WS.out
    have QL2:=hid RB.out.b.lt
    have CBL:=hid (show NC (y43.alloc (.cells #[.string rl.1.op,.string rl.1.name,.int .i64 (rl.1.kind:Nat),.int .i64 rl.1.n,.int .i64 (rl.1.pl:Nat),.slice sa43 sm43 sc43] 31)) y43.heap.size 0 rl.1 (.slice sa43 sm43 sc43) from ⟨by simp,by simp,by simp,by simp,by simp,by simp⟩)
    have NN7:=hid (nd_one1 (c:=1) (S:=fun g=>n1≤g∧g≠rb) ⟨ys,by have:=QL2.out;omega⟩ CBL.out (BL.out.d.keep fun g s l=>⟨⟨by omega,by omega⟩,HS7.out.block g l⟩))
    replace HS:=hid (HS.out.next HS7.out)
    replace HG:=hid (HG.out.below HS7.out)
    replace HB:=hid (HB.out.next HS7.out)
    replace WS:=hid (Nat.le_trans WS.out HS7.out.size)
    replace RB:=hid (RB.out.next HS7.out)
    clear HS7 QL2 CBL
    obtain ⟨v0,v1,v2,v3,v4,v5,vz⟩:=(show B6 _ rb (.string ⟨#[114,111,119]⟩) (.string ⟨#[]⟩) (.int .i64 0) (.int .i64 0) (.int .i64 (aw z.l:Nat)) (.slice none 0 0) from RB.out.b)
    go_upto_region 39 with fail
    replace HS:=hid (HS.out.put (q:=rb) (i:=5) (by omega) (by omega) (.slice (some ⟨y43.heap.size,0,none⟩) 1 1))
    replace HG:=hid (HG.out.put (q:=rb) (i:=5) (by omega) (.slice (some ⟨y43.heap.size,0,none⟩) 1 1))
    replace HB:=hid (HB.out.put (q:=rb) (i:=5) (by omega) (.slice (some ⟨y43.heap.size,0,none⟩) 1 1))
    replace WS:=hid (show n1≤((y43.alloc (.cells #[.string rl.1.op,.string rl.1.name,.int .i64 (rl.1.kind:Nat),.int .i64 rl.1.n,.int .i64 (rl.1.pl:Nat),.slice sa43 sm43 sc43] 31)).setCell ⟨rb,5,none⟩ (.slice (some ⟨y43.heap.size,0,none⟩) 1 1)).heap.size from by simpa using WS.out)
    replace RB:=hid (show Bq ((y43.alloc (.cells #[.string rl.1.op,.string rl.1.name,.int .i64 (rl.1.kind:Nat),.int .i64 rl.1.n,.int .i64 (rl.1.pl:Nat),.slice sa43 sm43 sc43] 31)).setCell ⟨rb,5,none⟩ (.slice (some ⟨y43.heap.size,0,none⟩) 1 1)) n1 rb (.nd ⟨#[114,111,119]⟩ ⟨#[]⟩ 0 0 (aw z.l) [rl.1]) (.slice (some ⟨y43.heap.size,0,none⟩) 1 1) from ⟨RB.out.b.set5 _,NN7.out.put (n:=0) (fun e=>e.2 rfl) _,RB.out.l⟩)
    clear v0 v1 v2 v3 v4 v5 vz
    generalize World.setCell (y43.alloc _) _ _=z44 at *
    clear NN7 ys BL BL0 BL1 BL2 BL3 BL4 BL5
    generalize y43.heap.size=bz at *
    replace TB:=hid (TB.out.gr HS.out HG.out)
    have HS8:=hid (show Below z44.heap.size z44 (z44.alloc (.cells #[.string ⟨#[114,111,119]⟩,.string ⟨#[]⟩,.int .i64 0,.int .i64 0,.int .i64 (aw z.l:Nat),.slice (some ⟨bz,0,none⟩) 1 1] 31)) from (Below.refl _ _).alloc (Nat.le_refl _) _)
    have F8:=hid (TB.out.next HS8.out)
    have C8:=hid (show NC (z44.alloc (.cells #[.string ⟨#[114,111,119]⟩,.string ⟨#[]⟩,.int .i64 0,.int .i64 0,.int .i64 (aw z.l:Nat),.slice (some ⟨bz,0,none⟩) 1 1] 31)) z44.heap.size 0 (Tr.nd ⟨#[114,111,119]⟩ ⟨#[]⟩ 0 0 (aw z.l) [rl.1]) (.slice (some ⟨bz,0,none⟩) 1 1) from ⟨by simp;rfl,by simp;rfl,by simp;rfl,by simp;rfl,by simp;rfl,by simp⟩)
    have N8:=hid (show Nd (z44.alloc (.cells #[.string ⟨#[114,111,119]⟩,.string ⟨#[]⟩,.int .i64 0,.int .i64 0,.int .i64 (aw z.l:Nat),.slice (some ⟨bz,0,none⟩) 1 1] 31)) (fun g=>q+1≤g∧some g≠(Value.slice sa ts.length sc).ownBlock) (.slice (some ⟨bz,0,none⟩) 1 1) (Tr.nd ⟨#[114,111,119]⟩ ⟨#[]⟩ 0 0 (aw z.l) [rl.1]).kids from RB.out.d.keep fun g s l=>⟨⟨by omega,fun e=>by have:=OL.out g e.symm;omega⟩,HS8.out.block g l⟩)
    have ba8:=hid (show q+1≤(z44.alloc (.cells #[.string ⟨#[114,111,119]⟩,.string ⟨#[]⟩,.int .i64 0,.int .i64 0,.int .i64 (aw z.l:Nat),.slice (some ⟨bz,0,none⟩) 1 1] 31)).heap.size from by have:=F8.out.nb.lt;omega)
    obtain ⟨v0,v1,v2,v3,v4,v5,vz⟩:=(show B6 _ rb (.string ⟨#[114,111,119]⟩) (.string ⟨#[]⟩) (.int .i64 0) (.int .i64 0) (.int .i64 (aw z.l:Nat)) (.slice (some ⟨bz,0,none⟩) 1 1) from RB.out.b)
    have d5:=TB.out.nb.c5
    clear TB RB HS HG HB WS HS8
    go_upto_region 40 with (at_builtin;refine wpList_addM rfl (.tmp 127) (.tmp 129) rfl (q+1) (.slice sa ts.length sc) ts (Tr.nd ⟨#[114,111,119]⟩ ⟨#[]⟩ 0 0 (aw z.l) [rl.1]) (.slice (some ⟨bz,0,none⟩) 1 1) rfl F8.out.ky z44.heap.size rfl C8.out N8.out (by omega) ba8.out ?_;intro v2 w90 o2 g2;obtain ⟨va,vm,vc,rfl,HVM⟩:=o2.sl3;have F9:=hid (F8.out.kid g2 o2);have m5:=(F8.out.nb.grown g2 (F8.out.off (by omega))).c5;have mz:=(F8.out.nb.grown g2 (F8.out.off (by omega))).fz 5;clear o2 g2 v0 v1 v2 v3 v4 v5 vz d5)
    generalize World.setCell w90 _ _=w91 at *
    clear m5 mz F8 C8 N8 ba8
    have WT:=hid (rwant_any F9.out.hs ⟨#[125]⟩)
    go_upto_region 41 with (go_at_call 44;with_reducible refine Calls.mono WT.out ?_;rintro e w92 ⟨rfl,h92,g92⟩;replace F9:=hid (F9.out.gr h92 g92);clear h92 g92 WT)
    have RF:=hid (show rr=(ts ++ [rowT (aw (z).l) [rl.1]],rl.2.want ⟨#[125]⟩) from by rw [← HR.out,RZ.out,RE.out])
    clear HR RZ RE HRL hn1
    obtain ⟨bu0,bu1,bu2,bu3,bu4,bu5,buz⟩:=F9.out.hb
    obtain ⟨v0,v1,v2,v3,v4,v5,vz⟩:=F9.out.nb
    have BF:=hid (F9.out.hb.sets (.string ⟨#[116,97,98,108,101]⟩) (.string rn.1) (.int .i64 (rh.1:Nat)) (.int .i64 (rk.1:Nat)) (.int .i64 (aw s.l:Nat)) (.slice va vm vc))
    have SF:=hid (F9.out.hs.put6 (q:=w.heap.size) (by omega) (by omega) (.string ⟨#[116,97,98,108,101]⟩) (.string rn.1) (.int .i64 (rh.1:Nat)) (.int .i64 (rk.1:Nat)) (.int .i64 (aw s.l:Nat)) (.slice va vm vc))
    have GF:=hid (F9.out.hg.put6 (q:=w.heap.size) (by omega) (.string ⟨#[116,97,98,108,101]⟩) (.string rn.1) (.int .i64 (rh.1:Nat)) (.int .i64 (rk.1:Nat)) (.int .i64 (aw s.l:Nat)) (.slice va vm vc))
    have NF:=hid (Nd.put6x (q:=w.heap.size) (m:=w.heap.size) F9.out.ky.nd (by omega) (by omega) (.string ⟨#[116,97,98,108,101]⟩) (.string rn.1) (.int .i64 (rh.1:Nat)) (.int .i64 (rk.1:Nat)) (.int .i64 (aw s.l:Nat)) (.slice va vm vc))
    go_wp2_with fail
    generalize World.setCell _ ⟨w.heap.size,5,none⟩ _=wf at *
    obtain ⟨q0,q1,q2,q3,q4,q5,_⟩:=BF.out
    exact bodyPost_ret (v:=.agg #[.string ⟨#[116,97,98,108,101]⟩,.string rn.1,.int .i64 (rh.1:Nat),.int .i64 (rk.1:Nat),.int .i64 (aw s.l:Nat),.slice va vm vc]) (by simp [results,Tryd.results26,go_sem,q0,q1,q2,q3,q4,q5]) rfl (by rw [RF.out];exact ⟨GF.out,SF.out,_,rfl,_,rfl,NF.out⟩)
end Go.Proofs.YtbeahnehjannpaaDoor
