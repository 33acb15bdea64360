/- Parts of the proof. -/
import Derived.Test.YteknljnjcoehoaaGreatDoorPc
import Derived.Deep.CutRange
import Derived.Deep.QuietTactic
namespace Go.Proofs.YteknljnjcoehoaaGreatDoor
open Go.RowKit
set_option linter.unusedVariables false
set_option linter.unusedSimpArgs false
def fndB (rn loc:List ByteArray) (op nm:ByteArray):Bool:=eqB op ⟨#[110,97,109,101]⟩ && decide (0<cntK rn nm) && decide (cntK loc nm=0)
def LkC (b0 b1 p B:Nat) (rn:List ByteArray) (S:Nat→Prop) (loc:List ByteArray) (t:Tr):Prop :=
 ∀ (w:World) (fv v:Value) (l:List ByteArray),Fdr w b0 b1 p B rn loc fv l→l.length+nodT t≤100000→Nd w S v t.kids→Calls Tryz.prog 55 #[.pointer (some ⟨p,0,none⟩),.agg #[.string t.op,.string t.name,.int .i64 (t.kind:Nat),.int .i64 t.n,.int .i64 (t.pl:Nat),v]] w fun e w'=>e=.returned (.tuple #[])∧(∃ fv',Fdr w' b0 b1 p B rn loc fv' (l ++ lookT rn loc t))∧Go2 w w' B b1 p
structure LkI (w wr:World) (b0 b1 p B:Nat) (rn:List ByteArray) (S:Nat→Prop) (loc:List ByteArray) (q:Nat) (op nm:ByteArray) (kd:Nat) (n:Int) (pl:Nat) (sv:Value) (s:Bool) (ts:List Tr) (i:Nat) (ac:List ByteArray) (R:List ByteArray):Prop where
 fd:∃ fv,Fdr wr b0 b1 p B rn loc fv ac
 nd:Nd wr S sv ts
 bx:B6 wr q (.string op) (.string nm) (.int .i64 (kd:Nat)) (.int .i64 n) (.int .i64 (pl:Nat)) sv
 ns:NS wr q
 gs:Go2 w wr B b1 p
 aq:ac ++ lookL rn loc s nm (decide (i=0)) (ts.drop i)=R
 ln:ac.length+nodL (ts.drop i)≤100000
theorem lk_next {rn loc:List ByteArray} {s:Bool} {nm:ByteArray} {ts:List Tr} {i:Nat} {k:Tr} (hk:ts[i]?=some k):lookL rn loc s nm (decide (i=0)) (ts.drop i)=lookT rn (if s && decide (0<i) then nm :: loc else loc) k ++ lookL rn loc s nm (decide (i+1=0)) (ts.drop (i+1)):=by
 obtain ⟨hi,hk⟩:=List.getElem?_eq_some_iff.1 hk
 rw [List.drop_eq_getElem_cons hi,hk]
 have e:(s && !decide (i=0))=(s && decide (0<i)):=by
  congr 1
  by_cases c:i=0
  ·simp [c]
  ·simp [c];omega
 rw [lookL,e]
 simp
theorem nod_next {ts:List Tr} {i:Nat} {k:Tr} (hk:ts[i]?=some k):nodL (ts.drop i)=nodT k+nodL (ts.drop (i+1)):=by
 obtain ⟨hi,hk⟩:=List.getElem?_eq_some_iff.1 hk
 rw [List.drop_eq_getElem_cons hi,hk,nodL]
theorem B6.go2 {w w':World} {q B b p:Nat} {v0 v1 v2 v3 v4 v5:Value} (h:B6 w q v0 v1 v2 v3 v4 v5) (g:Go2 w w' B b p) (hb:q≠b) (hp:q≠p) (hn:NS w q):B6 w' q v0 v1 v2 v3 v4 v5:=h.keep (g.kp q h.lt hb hp (Or.inr hn))
theorem NS.go2 {w w':World} {q B b p:Nat} (hn:NS w q) (g:Go2 w w' B b p) (hl:q<w.heap.size) (hb:q≠b) (hp:q≠p):NS w' q:=hn.kept (g.kp q hl hb hp (Or.inr hn))
theorem NS.next {w w':World} {q:Nat} (hn:NS w q) (hl:q<w.heap.size) (k:Below w.heap.size w w'):NS w' q:=hn.kept (k.block q hl)
theorem Nd.go2 {w w':World} {S:Nat→Prop} {v:Value} {ts:List Tr} {B b p:Nat} (h:Nd w S v ts) (g:Go2 w w' B b p) (hS:∀ g,S g→g<B∧g≠b∧g≠p) (hB:B≤w.heap.size):Nd w' S v ts :=
 h.keep fun x s _=>⟨s,g.kp x (by have:=(hS x s).1;omega) (hS x s).2.1 (hS x s).2.2 (Or.inl (hS x s).1)⟩
set_option maxRecDepth 100000 in
set_option maxHeartbeats 8000000 in
theorem look_step {b0 b1 p B:Nat} {rn:List ByteArray} (S:Nat→Prop) (hS:∀ g,S g→g<B∧g≠b1∧g≠p) (op nm:ByteArray) (kd:Nat) (n:Int) (pl:Nat) (ts:List Tr) (hl:ts.length≤10000) (loc:List ByteArray) (hloc:loc.length≤100) (s:Bool) (hs:eqB op ⟨#[115,117,109]⟩=s)
  (hk:∀ i k,ts[i]?=some k→LkC b0 b1 p B rn S (if s && decide (0<i) then nm :: loc else loc) k):LkC b0 b1 p B rn S loc (.nd op nm kd n pl ts):=by
 intro w fv v l h hb hd
 dsimp only [Tr.op,Tr.name,Tr.kind,Tr.n,Tr.pl,Tr.kids] at hd ⊢
 obtain ⟨sa,sc,rfl⟩:=hd.lenY
 have B1:=hid (show Below w.heap.size w (w.alloc (.cells #[.string op,.string nm,.int .i64 (kd:Nat),.int .i64 n,.int .i64 (pl:Nat),.slice sa ts.length sc] 26)) from (Below.refl _ _).alloc (Nat.le_refl _) _)
 have X1:=hid (B6.new w 26 (.string op) (.string nm) (.int .i64 (kd:Nat)) (.int .i64 n) (.int .i64 (pl:Nat)) (.slice sa ts.length sc))
 have Q1:=hid (NS.new w #[.string op,.string nm,.int .i64 (kd:Nat),.int .i64 n,.int .i64 (pl:Nat),.slice sa ts.length sc] 26 (by decide))
 have F1:=hid (h.next B1.out)
 have N1:=hid (hd.gwY B1.out)
 have G1:=hid ((Go2.refl w B b1 p).below B1.out)
 have LT:=hid h.lt
 have SZ:=hid h.sz
 have HS:=hid hS
 have HK:=hid hk
 have CN:=hid (show cntK loc nm≤100 from Nat.le_trans (List.countP_le_length) hloc)
 have z0:(op.toList==[115,117,109])=s:=(eqL _ _).trans hs
 obtain ⟨R,hR⟩:∃ R,l ++ lookT rn loc (.nd op nm kd n pl ts)=R:=⟨_,rfl⟩
 have RH:=hid (show (l ++ if fndB rn loc op nm then [nm] else []) ++ lookL rn loc s nm true ts=R from by rw [← hR,lookT,hs,List.append_assoc];rfl)
 have HB:=hid (show l.length+1+nodL ts≤100000 from by rw [nodT] at hb;omega)
 have KL9:(ts.length:Int)≤10000:=by omega
 rw [hR]
 clear h hb hd hS hk hs hR hloc hl B1
 go_enter Tryz.func55,Tryz.ntmps55
 go_upto_region 1 with fail
 generalize World.alloc w _=w1 at *
 go_cut [29] from 7 to 29 (fun s9 wx=>s9=.bool (fndB rn loc op nm)∧Hid (∃ nq,wx=w1.drewN nq))
 case first =>
  have k0:=fun n=>(F1.out.next (drewN_below w1 n)).k0 nm
  have k1:=fun n=>(F1.out.next (drewN_below w1 n)).k1 nm
  obtain ⟨c0,c1,_,_,_,_,_,_,_⟩:=F1.out
  obtain ⟨x0,x1,_,_,_,_,_⟩:=X1.out
  have FB:=hid (show fndB rn loc op nm=(eqB op ⟨#[110,97,109,101]⟩ && decide (0<cntK rn nm) && decide (cntK loc nm=0)) from rfl)
  generalize fndB rn loc op nm=fb at *
  generalize cntK rn nm=n0 at *
  generalize cntK loc nm=n1 at *
  cases y1:eqB op ⟨#[110,97,109,101]⟩ with
  | false =>
   have z1:(op.toList==[110,97,109,101])=false:=(eqL _ _).trans y1
   have FF:=hid (show fb=false from by rw [FB.out,y1];rfl)
   clear y1 FB
   go_quiet (fail)
   go_wp2
   go_meet
   exact ⟨by rw [FF.out],_,rfl⟩
  | true =>
   have z1:(op.toList==[110,97,109,101])=true:=(eqL _ _).trans y1
   by_cases q0:0<n0
   ·have q0':(0:Int)<(n0:Int):=by omega
    have q0b:decide (0<n0)=true:=decide_eq_true q0
    by_cases q1:n1=0
    ·have q1':((n1:Int)==0)=true:=by simp;omega
     have q1b:(n1==0)=true:=by simp;omega
     have q1c:decide (n1=0)=true:=decide_eq_true q1
     have FF:=hid (show fb=true from by rw [FB.out,y1,decide_eq_true q0,decide_eq_true q1];rfl)
     clear y1 FB q0 q1
     go_quiet (fail)
     go_wp2
     go_meet
     exact ⟨by rw [FF.out],_,rfl⟩
    ·have q1':((n1:Int)==0)=false:=beqI _ _ (by omega)
     have q1b:(n1==0)=false:=by simp;omega
     have q1c:decide (n1=0)=false:=decide_eq_false q1
     have FF:=hid (show fb=false from by rw [FB.out,y1,decide_eq_true q0,decide_eq_false q1];rfl)
     clear y1 FB q0 q1
     go_quiet (fail)
     go_wp2
     go_meet
     exact ⟨by rw [FF.out],_,rfl⟩
   ·have q0':¬ (0:Int)<(n0:Int):=by omega
    have q0b:decide (0<n0)=false:=decide_eq_false q0
    have FF:=hid (show fb=false from by rw [FB.out,y1,decide_eq_false q0];rfl)
    clear y1 FB q0
    go_quiet (fail)
    go_wp2
    go_meet
    exact ⟨by rw [FF.out],_,rfl⟩
 case rest =>
  obtain ⟨rfl,nq,ew⟩:=hcut
  subst ew
  have BQ:=hid (drewN_below w1 nq)
  have X2:=hid (X1.out.next BQ.out)
  have Q2:=hid (Q1.out.next X1.out.lt BQ.out)
  have F2:=hid (F1.out.next BQ.out)
  have N2:=hid (N1.out.gwY BQ.out)
  have G2:=hid (G1.out.below BQ.out)
  clear X1 Q1 F1 N1 G1 BQ
  generalize w1.drewN nq=w2 at *
  generalize fndB rn loc op nm=fb at *
  go_upto_if 29 with fail
  go_cut [29] from 29 to 40 (fun s9 wx=>Hid (∃ fv',Fdr wx b0 b1 p B rn loc fv' (l ++ if fb then [nm] else [])∧Go2 w2 wx B b1 p))
  case first =>
   cases fb with
   | false =>
    go_wp2_with fail
    go_meet
    exact ⟨fv,by simpa using F2.out,Go2.refl _ _ _ _⟩
   | true =>
    go_upto_region 2 with fail
    refine wp_region_held_drew (S:=fun W=>W.cell? ⟨w.heap.size,1,none⟩=some (.string nm)) (by kernel_rfl) (X2.out.next (Below.refl _ _).drew).c1 (fun hHeld=>?_)
    have DZ:=hid (show Below w2.heap.size w2 w2.drew from (Below.refl _ _).drew)
    generalize w2.drew=wz at *
    have FZ:=hid (F2.out.next DZ.out)
    have XZ:=hid (X2.out.next DZ.out)
    have BA:=hid (show Below wz.heap.size wz (wz.alloc (.cells #[.string nm] 9)) from (Below.refl _ _).alloc (Nat.le_refl _) _)
    have FA:=hid (FZ.out.next BA.out)
    have XA:=hid (XZ.out.next BA.out)
    have GA:=hid (((Go2.refl w2 B b1 p).below DZ.out).below BA.out)
    have NA:=hid (sl_new wz (.string nm) 9 rfl)
    have PR:=hid FZ.out.pl
    have LN:=hid (show (sv l).length+1≤1000000 from by rw [sv_len];have:=HB.out;omega)
    refine tk 0 (.pointer (some ⟨p,0,none⟩)) 30 rfl rfl rfl (by kernel_rfl) (fun _ _ _ h=>h) (by rfl) hHeld ?_ ?_
    ·(intro W hW;(try dsimp only at hW);go_simp)
    try simp only [Act.put,List.setIfInBounds_toArray,List.set_cons_zero,List.set_cons_succ]
    refine tk 1 (.pointer (some ⟨p,0,none⟩)) 31 rfl rfl rfl (by kernel_rfl) (fun _ _ _ h=>h) (by rfl) hHeld ?_ ?_
    ·(intro W hW;(try dsimp only at hW);go_simp)
    try simp only [Act.put,List.setIfInBounds_toArray,List.set_cons_zero,List.set_cons_succ]
    refine tk 2 (.pointer (some ⟨p,0,none⟩)) 32 rfl rfl rfl (by kernel_rfl) (fun _ _ _ h=>h) (by rfl) hHeld ?_ ?_
    ·(intro W hW;(try dsimp only at hW);go_simp)
    try simp only [Act.put,List.setIfInBounds_toArray,List.set_cons_zero,List.set_cons_succ]
    refine tk 3 (.pointer (some ⟨p,2,none⟩)) 33 rfl rfl rfl (by kernel_rfl) (fun _ _ _ h=>h) (by rfl) hHeld ?_ ?_
    ·(intro W hW;(try dsimp only at hW);go_simp)
    try simp only [Act.put,List.setIfInBounds_toArray,List.set_cons_zero,List.set_cons_succ]
    refine tk 5 (.pointer (some ⟨w.heap.size,1,none⟩)) 35 rfl rfl rfl (by kernel_rfl) (fun _ _ _ h=>h) (by rfl) hHeld ?_ ?_
    ·(intro W hW;(try dsimp only at hW);go_simp)
    try simp only [Act.put,List.setIfInBounds_toArray,List.set_cons_zero,List.set_cons_succ]
    refine tk 6 (.string nm) 36 rfl rfl rfl (by kernel_rfl) (fun _ _ _ h=>h) (by rfl) hHeld ?_ ?_
    ·(intro W hW;(try dsimp only at hW);have c1:=hW;go_simp)
    try simp only [Act.put,List.setIfInBounds_toArray,List.set_cons_zero,List.set_cons_succ]
    have QA:=hid ((Q2.out.next X2.out.lt DZ.out).next XZ.out.lt BA.out)
    clear X2 F2
    refine wpAnyH_ready (rs:=[4,7]) (by kernel_rfl) (by simp) ?_
    refine cons22 rfl rfl rfl (fun K9 hK=>?_) (fun K9 hK=>?_)
    ·have c2:=FZ.out.c2
     go_simp
     (try go_wp2_with fail)
     refine hK.out _ _ (XZ.out).c1 (fun hX=>?_)
     clear hK K9 hHeld
     have hHeld:=hX
     clear hX
     try simp only [Act.put,List.setIfInBounds_toArray,List.set_cons_zero,List.set_cons_succ]
     clear c2
     refine wpAnyH_ready (rs:=[7]) (by kernel_rfl) (by simp) ?_
     refine cons2 rfl rfl (fun K9 hK=>?_)
     go_simp
     (try go_wp2_with fail)
     refine hK.out _ _ XA.out.c1 (fun hX=>?_)
     clear hK K9 hHeld
     have hHeld:=hX
     clear hX
     try simp only [Act.put,List.setIfInBounds_toArray,List.set_cons_zero,List.set_cons_succ]
     refine wpAnyH_ready (rs:=[8]) (by kernel_rfl) (by simp) ?_
     refine cons2 rfl rfl (fun K9 hK=>?_)
     refine step_append_sa 32 9 (.string ByteArray.empty) 16 Tryz.underlying32 strInfo rfl (by decide) (by rfl) (.tmp 34) (.tmp 37) (by rfl) B fv (sv l) (by rfl) FA.out.row (some ⟨wz.heap.size,0,none⟩) 1 1 [.string nm] (by rfl) NA.out LN.out FA.out.sz ?_
     intro v1 w4 o1 g1 l1
     obtain ⟨ra,rc,ev1⟩:=own_slice o1.row
     obtain ⟨rl,en1⟩:∃ q,(sv l ++ [Value.string nm]).length=q:=⟨_,rfl⟩
     rw [en1] at ev1
     subst ev1
     have XE:=hid (XA.out.go2 (B:=B) (b:=b1) (p:=p) ((Go2.refl _ B b1 p).row FA.out.row g1) (by have:=LT.out;have:=SZ.out;omega) (by have:=LT.out;have:=SZ.out;omega) QA.out)
     have O1:=hid (show Ow w4 9 B (.slice ra rl rc) (sv (l ++ [nm])) from by rw [sv_app];exact o1)
     have EP:=hid (show w4.heap[p]?=(wz.alloc (.cells #[.string nm] 9)).heap[p]? from g1.block p (by have:=PR.out;have:=BA.out.size;omega) (fun e=>FA.out.row.ns (Or.inl LT.out.2.2) e.symm))
     have F5:=hid (FA.out.put g1 O1.out)
     have G5:=hid ((GA.out.row FA.out.row g1).set (i:=2) (.slice ra rl rc))
     have X5:=hid (XE.out.put (q:=p) (i:=2) (by have:=LT.out;have:=SZ.out;omega) (.slice ra rl rc))
     clear o1 g1 l1 en1
     refine hK.out _ _ XE.out.c1 (fun hX=>?_)
     clear hK K9 hHeld
     have hHeld:=hX
     clear hX
     try simp only [Act.put,List.setIfInBounds_toArray,List.set_cons_zero,List.set_cons_succ]
     refine tk 9 (.pointer (some ⟨p,0,none⟩)) 39 rfl rfl rfl (by kernel_rfl) (fun _ _ _ h=>h) (by rfl) hHeld ?_ ?_
     ·(intro W hW;(try dsimp only at hW);go_simp)
     try simp only [Act.put,List.setIfInBounds_toArray,List.set_cons_zero,List.set_cons_succ]
     refine tk 10 (.pointer (some ⟨p,2,none⟩)) 40 rfl rfl rfl (by kernel_rfl) (fun _ _ _ h=>h) (by rfl) hHeld ?_ ?_
     ·(intro W hW;(try dsimp only at hW);go_simp)
     try simp only [Act.put,List.setIfInBounds_toArray,List.set_cons_zero,List.set_cons_succ]
     have c2:w4.cell? ⟨p,2,none⟩=some fv:=(World.cell?_of_block (a:=⟨p,2,none⟩) EP.out).trans FA.out.c2
     have zz:w4.frozen? ⟨p,2,none⟩=false:=by rw [World.frozen?_of_block (a:=⟨p,2,none⟩) EP.out];exact FA.out.fz 2
     refine wpAnyH_ready (rs:=[11]) (by kernel_rfl) (by simp) ?_
     refine cons2 rfl rfl (fun K9 hK=>?_)
     go_simp
     refine hK.out _ _ X5.out.c1 (fun hX=>?_)
     clear hK K9 hHeld
     have hHeld:=hX
     clear hX
     try simp only [Act.put,List.setIfInBounds_toArray,List.set_cons_zero,List.set_cons_succ]
     refine wpAnyH_done (by kernel_rfl) ?_ _
     clear c2 zz
     go_wp2
     go_meet
     exact ⟨_,F5.out,G5.out⟩
    ·go_simp
     (try go_wp2_with fail)
     refine hK.out _ _ XA.out.c1 (fun hX=>?_)
     clear hK K9 hHeld
     have hHeld:=hX
     clear hX
     try simp only [Act.put,List.setIfInBounds_toArray,List.set_cons_zero,List.set_cons_succ]
     refine wpAnyH_ready (rs:=[4]) (by kernel_rfl) (by simp) ?_
     refine cons2 rfl rfl (fun K9 hK=>?_)
     have c2:=FA.out.c2
     go_simp
     (try go_wp2_with fail)
     refine hK.out _ _ (XA.out).c1 (fun hX=>?_)
     clear hK K9 hHeld
     have hHeld:=hX
     clear hX
     try simp only [Act.put,List.setIfInBounds_toArray,List.set_cons_zero,List.set_cons_succ]
     clear c2
     refine wpAnyH_ready (rs:=[8]) (by kernel_rfl) (by simp) ?_
     refine cons2 rfl rfl (fun K9 hK=>?_)
     refine step_append_sa 32 9 (.string ByteArray.empty) 16 Tryz.underlying32 strInfo rfl (by decide) (by rfl) (.tmp 34) (.tmp 37) (by rfl) B fv (sv l) (by rfl) FA.out.row (some ⟨wz.heap.size,0,none⟩) 1 1 [.string nm] (by rfl) NA.out LN.out FA.out.sz ?_
     intro v1 w4 o1 g1 l1
     obtain ⟨ra,rc,ev1⟩:=own_slice o1.row
     obtain ⟨rl,en1⟩:∃ q,(sv l ++ [Value.string nm]).length=q:=⟨_,rfl⟩
     rw [en1] at ev1
     subst ev1
     have XE:=hid (XA.out.go2 (B:=B) (b:=b1) (p:=p) ((Go2.refl _ B b1 p).row FA.out.row g1) (by have:=LT.out;have:=SZ.out;omega) (by have:=LT.out;have:=SZ.out;omega) QA.out)
     have O1:=hid (show Ow w4 9 B (.slice ra rl rc) (sv (l ++ [nm])) from by rw [sv_app];exact o1)
     have EP:=hid (show w4.heap[p]?=(wz.alloc (.cells #[.string nm] 9)).heap[p]? from g1.block p (by have:=PR.out;have:=BA.out.size;omega) (fun e=>FA.out.row.ns (Or.inl LT.out.2.2) e.symm))
     have F5:=hid (FA.out.put g1 O1.out)
     have G5:=hid ((GA.out.row FA.out.row g1).set (i:=2) (.slice ra rl rc))
     have X5:=hid (XE.out.put (q:=p) (i:=2) (by have:=LT.out;have:=SZ.out;omega) (.slice ra rl rc))
     clear o1 g1 l1 en1
     refine hK.out _ _ XE.out.c1 (fun hX=>?_)
     clear hK K9 hHeld
     have hHeld:=hX
     clear hX
     try simp only [Act.put,List.setIfInBounds_toArray,List.set_cons_zero,List.set_cons_succ]
     refine tk 9 (.pointer (some ⟨p,0,none⟩)) 39 rfl rfl rfl (by kernel_rfl) (fun _ _ _ h=>h) (by rfl) hHeld ?_ ?_
     ·(intro W hW;(try dsimp only at hW);go_simp)
     try simp only [Act.put,List.setIfInBounds_toArray,List.set_cons_zero,List.set_cons_succ]
     refine tk 10 (.pointer (some ⟨p,2,none⟩)) 40 rfl rfl rfl (by kernel_rfl) (fun _ _ _ h=>h) (by rfl) hHeld ?_ ?_
     ·(intro W hW;(try dsimp only at hW);go_simp)
     try simp only [Act.put,List.setIfInBounds_toArray,List.set_cons_zero,List.set_cons_succ]
     have c2:w4.cell? ⟨p,2,none⟩=some fv:=(World.cell?_of_block (a:=⟨p,2,none⟩) EP.out).trans FA.out.c2
     have zz:w4.frozen? ⟨p,2,none⟩=false:=by rw [World.frozen?_of_block (a:=⟨p,2,none⟩) EP.out];exact FA.out.fz 2
     refine wpAnyH_ready (rs:=[11]) (by kernel_rfl) (by simp) ?_
     refine cons2 rfl rfl (fun K9 hK=>?_)
     go_simp
     refine hK.out _ _ X5.out.c1 (fun hX=>?_)
     clear hK K9 hHeld
     have hHeld:=hX
     clear hX
     try simp only [Act.put,List.setIfInBounds_toArray,List.set_cons_zero,List.set_cons_succ]
     refine wpAnyH_done (by kernel_rfl) ?_ _
     clear c2 zz
     go_wp2
     go_meet
     exact ⟨_,F5.out,G5.out⟩
  case rest =>
   obtain ⟨fv3,f3,g3⟩:=hcut
   have F3:=hid f3
   have X3:=hid (X2.out.go2 g3 (by have:=LT.out;have:=SZ.out;omega) (by have:=LT.out;have:=SZ.out;omega) Q2.out)
   have Q3:=hid (Q2.out.go2 g3 X2.out.lt (by have:=LT.out;have:=SZ.out;omega) (by have:=LT.out;have:=SZ.out;omega))
   have N3:=hid (N2.out.go2 g3 HS.out F2.out.sz)
   have G3:=hid (G2.out.trans g3)
   obtain ⟨l3,hl3⟩:∃ l3,(l ++ if fb then [nm] else [])=l3:=⟨_,rfl⟩
   have H3:=hid (show l3.length+nodL ts≤100000 from by rw [← hl3,List.length_append];have:=HB.out;cases fb <;> simp <;> omega)
   rw [hl3] at F3 RH
   clear f3 g3 hl3 X2 Q2 F2 N2 G2 HB
   obtain ⟨x0,x1,x2,x3,x4,x5,xz⟩:=X3.out
   go_upto_region 4 with fail
   clear x0 x1 x2 x3 x4 x5 xz
   go_loopg [44,4,5,6] (ts.length) (fun g iv jv kv bv wr=>∃ (i:Nat) (ac:List ByteArray),i≤ts.length∧g=ts.length - i∧iv=.int .i64 (i:Nat)∧Hid (LkI w wr b0 b1 p B rn S loc w.heap.size op nm kd n pl (.slice sa ts.length sc) s ts i ac R))
   case atStart=>exact ⟨0,l3,Nat.zero_le _,rfl,rfl,⟨_,F3.out⟩,N3.out,X3.out,Q3.out,G3.out,RH.out,H3.out⟩
   case round =>
    obtain ⟨i,ac,hi,rfl,rfl,II⟩:=hrel
    by_cases qi:i<ts.length
    ·have qi':(i:Int)<(ts.length:Int):=by omega
     obtain ⟨k,hk⟩:∃ k,ts[i]?=some k:=⟨_,List.getElem?_eq_getElem qi⟩
     obtain ⟨g,c,s3,ea,nc,nk⟩:=II.out.nd.atY i k hk
     obtain ⟨ka,km,kc,rfl⟩:=nk.slice
     injection ea with ea _ ec
     subst ea ec
     have KK:=hid (HK.out i k hk)
     have AC:=hid (show ac ++ (lookT rn (if s && decide (0<i) then nm :: loc else loc) k ++ lookL rn loc s nm (decide (i+1=0)) (ts.drop (i+1)))=R from by rw [← lk_next hk];exact II.out.aq)
     have NL:=hid (show ac.length+(nodT k+nodL (ts.drop (i+1)))≤100000 from by rw [← nod_next hk];exact II.out.ln)
     have NK:=hid nk
     obtain ⟨n0,n1,n2,n3,n4,n5⟩:=nc
     clear nk hk
     obtain ⟨fv0,f0⟩:=II.out.fd
     have B3:=hid (show Below wr.heap.size wr (wr.alloc (.cells #[.string k.op,.string k.name,.int .i64 (k.kind:Nat),.int .i64 k.n,.int .i64 (k.pl:Nat),.slice ka km kc] 26)) from (Below.refl _ _).alloc (Nat.le_refl _) _)
     have X3:=hid (B6.new wr 26 (.string k.op) (.string k.name) (.int .i64 (k.kind:Nat)) (.int .i64 k.n) (.int .i64 (k.pl:Nat)) (.slice ka km kc))
     have F3:=hid (f0.next B3.out)
     have SB:=hid f0.sz
     have K3:=hid (NK.out.gwY B3.out)
     have N3:=hid (II.out.nd.gwY B3.out)
     have Y3:=hid (II.out.bx.next B3.out)
     have Q3:=hid (II.out.ns.next II.out.bx.lt B3.out)
     have QQ:=hid (NS.new wr #[.string k.op,.string k.name,.int .i64 (k.kind:Nat),.int .i64 k.n,.int .i64 (k.pl:Nat),.slice ka km kc] 26 (by decide))
     have G3:=hid (II.out.gs.below B3.out)
     clear NK II f0
     go_upto_region 6 with fail
     clear n0 n1 n2 n3 n4 n5
     generalize World.alloc wr _=w3 at *
     generalize wr.heap.size=xb at *
     have y0:=Y3.out.c0
     by_cases qs:s=true
     ·subst qs
      by_cases q0:0<i
      ·have q0':(0:Int)<(i:Int):=by omega
       have EV:=hid (show (if true && decide (0<i) then nm :: loc else loc)=nm :: loc from by simp [q0])
       rw [EV.out] at KK AC
       clear EV
       go_upto_region 8 with fail
       have c1:=F3.out.c1
       have y1:=Y3.out.c1
       refine wp_region_held_drew (S:=fun W=>W.cell? ⟨p,1,none⟩=some (.map (some b1))∧W.cell? ⟨w.heap.size,1,none⟩=some (.string nm)) (by kernel_rfl) ⟨c1,y1⟩ (fun hHeld=>?_)
       refine tk 0 (.pointer (some ⟨p,0,none⟩)) 57 rfl rfl rfl (by kernel_rfl) (fun _ _ _ h=>h) (by rfl) hHeld ?_ ?_
       ·(intro W hW;(try dsimp only at hW);go_simp)
       try simp only [Act.put,List.setIfInBounds_toArray,List.set_cons_zero,List.set_cons_succ]
       refine tk 1 (.pointer (some ⟨p,0,none⟩)) 58 rfl rfl rfl (by kernel_rfl) (fun _ _ _ h=>h) (by rfl) hHeld ?_ ?_
       ·(intro W hW;(try dsimp only at hW);go_simp)
       try simp only [Act.put,List.setIfInBounds_toArray,List.set_cons_zero,List.set_cons_succ]
       refine tk 2 (.pointer (some ⟨p,1,none⟩)) 59 rfl rfl rfl (by kernel_rfl) (fun _ _ _ h=>h) (by rfl) hHeld ?_ ?_
       ·(intro W hW;(try dsimp only at hW);go_simp)
       try simp only [Act.put,List.setIfInBounds_toArray,List.set_cons_zero,List.set_cons_succ]
       refine tk 3 (.map (some b1)) 60 rfl rfl rfl (by kernel_rfl) (fun _ _ _ h=>h) (by rfl) hHeld ?_ ?_
       ·(intro W hW;(try dsimp only at hW);have c4:=hW.1;go_simp)
       try simp only [Act.put,List.setIfInBounds_toArray,List.set_cons_zero,List.set_cons_succ]
       refine tk 4 (.pointer (some ⟨w.heap.size,1,none⟩)) 61 rfl rfl rfl (by kernel_rfl) (fun _ _ _ h=>h) (by rfl) hHeld ?_ ?_
       ·(intro W hW;(try dsimp only at hW);go_simp)
       try simp only [Act.put,List.setIfInBounds_toArray,List.set_cons_zero,List.set_cons_succ]
       refine tk 5 (.string nm) 62 rfl rfl rfl (by kernel_rfl) (fun _ _ _ h=>h) (by rfl) hHeld ?_ ?_
       ·(intro W hW;(try dsimp only at hW);have c4:=hW.2;go_simp)
       try simp only [Act.put,List.setIfInBounds_toArray,List.set_cons_zero,List.set_cons_succ]
       clear c1 y1 y0
       have D3:=hid (show Below w3.heap.size w3 w3.drew from (Below.refl _ _).drew)
       generalize w3.drew=wz at *
       have FZ:=hid (F3.out.next D3.out)
       have YZ:=hid (Y3.out.next D3.out)
       have k1:=FZ.out.k1 nm
       have cb:(cntK loc nm:Int)≤100:=by have:=CN.out;omega
       have cw:IntKind.i64.wrap ((cntK loc nm:Int)+1)=(cntK loc nm:Int)+1:=by go_arith
       refine wpAnyH_ready (rs:=[6]) (by kernel_rfl) (by simp) ?_
       refine cons2 rfl rfl (fun K9 hK=>?_)
       go_simp
       refine hK.out _ _ ⟨FZ.out.c1,YZ.out.c1⟩ (fun hX=>?_)
       clear hK K9 hHeld
       have hHeld:=hX
       clear hX
       try simp only [Act.put,List.setIfInBounds_toArray,List.set_cons_zero,List.set_cons_succ]
       refine tk 7 (.int .i64 ((cntK loc nm:Int)+1)) 64 rfl rfl rfl (by kernel_rfl) (fun _ _ _ h=>h) (by rfl) hHeld ?_ ?_
       ·(intro W hW;(try dsimp only at hW);go_simp)
       try simp only [Act.put,List.setIfInBounds_toArray,List.set_cons_zero,List.set_cons_succ]
       clear k1
       obtain ⟨w6,r6,f6,g6⟩:=FZ.out.push nm
       have F6:=hid f6
       have g6':=((Go2.refl wz B b1 p).grown g6)
       have X6:=hid ((X3.out.next D3.out).grown g6 (fun e=>by injection e with e;have:=LT.out;have:=SB.out;omega))
       have Y6:=hid (YZ.out.grown g6 (fun e=>by injection e with e;have:=LT.out;have:=SZ.out;omega))
       have Q6:=hid ((Q3.out.next Y3.out.lt D3.out).go2 g6' YZ.out.lt (by have:=LT.out;have:=SZ.out;omega) (by have:=LT.out;have:=SZ.out;omega))
       have N6:=hid ((N3.out.gwY D3.out).go2 g6' HS.out FZ.out.sz)
       have K6:=hid ((K3.out.gwY D3.out).go2 g6' HS.out FZ.out.sz)
       have G6:=hid ((G3.out.below D3.out).trans g6')
       clear f6 g6 g6'
       refine wpAnyH_ready (rs:=[8]) (by kernel_rfl) (by simp) ?_
       refine cons2 rfl rfl (fun K9 hK=>?_)
       go_simp
       go_wp2_with fail
       refine hK.out _ _ ⟨F6.out.c1,Y6.out.c1⟩ (fun hX=>?_)
       clear hK K9 hHeld
       have hHeld:=hX
       clear hX
       try simp only [Act.put,List.setIfInBounds_toArray,List.set_cons_zero,List.set_cons_succ]
       refine wpAnyH_done (by kernel_rfl) ?_ _
       clear F3 X3 Y3 Q3 N3 K3 G3 FZ YZ D3 r6 cb
       have KC:=hid (KK.out _ _ _ ac F6.out (by have:=NL.out;omega) K6.out)
       obtain ⟨x0,x1,x2,x3,x4,x5,xz⟩:=X6.out
       go_upto_region 10 with (go_at_call 55;with_reducible refine Calls.mono KC.out ?_;rintro e w7 ⟨rfl,⟨fv7,f7⟩,g7⟩;have F7:=hid f7;have G7:=hid g7;clear f7 g7)
       clear x0 x1 x2 x3 x4 x5 xz KC
       have N7:=hid (N6.out.go2 G7.out HS.out F6.out.sz)
       have Y7:=hid (Y6.out.go2 G7.out (by have:=LT.out;have:=SZ.out;omega) (by have:=LT.out;have:=SZ.out;omega) Q6.out)
       have Q7:=hid (Q6.out.go2 G7.out Y6.out.lt (by have:=LT.out;have:=SZ.out;omega) (by have:=LT.out;have:=SZ.out;omega))
       have H7:=hid (G6.out.trans G7.out)
       clear N6 Y6 Q6 G6 G7 F6 K6 X6
       go_upto_region 11 with fail
       have c1:=F7.out.c1
       have y1:=Y7.out.c1
       refine wp_region_held_drew (S:=fun W=>W.cell? ⟨p,1,none⟩=some (.map (some b1))∧W.cell? ⟨w.heap.size,1,none⟩=some (.string nm)) (by kernel_rfl) ⟨c1,y1⟩ (fun hHeld=>?_)
       refine tk 0 (.pointer (some ⟨p,0,none⟩)) 69 rfl rfl rfl (by kernel_rfl) (fun _ _ _ h=>h) (by rfl) hHeld ?_ ?_
       ·(intro W hW;(try dsimp only at hW);go_simp)
       try simp only [Act.put,List.setIfInBounds_toArray,List.set_cons_zero,List.set_cons_succ]
       refine tk 1 (.pointer (some ⟨p,0,none⟩)) 70 rfl rfl rfl (by kernel_rfl) (fun _ _ _ h=>h) (by rfl) hHeld ?_ ?_
       ·(intro W hW;(try dsimp only at hW);go_simp)
       try simp only [Act.put,List.setIfInBounds_toArray,List.set_cons_zero,List.set_cons_succ]
       refine tk 2 (.pointer (some ⟨p,1,none⟩)) 71 rfl rfl rfl (by kernel_rfl) (fun _ _ _ h=>h) (by rfl) hHeld ?_ ?_
       ·(intro W hW;(try dsimp only at hW);go_simp)
       try simp only [Act.put,List.setIfInBounds_toArray,List.set_cons_zero,List.set_cons_succ]
       refine tk 3 (.map (some b1)) 72 rfl rfl rfl (by kernel_rfl) (fun _ _ _ h=>h) (by rfl) hHeld ?_ ?_
       ·(intro W hW;(try dsimp only at hW);have c4:=hW.1;go_simp)
       try simp only [Act.put,List.setIfInBounds_toArray,List.set_cons_zero,List.set_cons_succ]
       refine tk 4 (.pointer (some ⟨w.heap.size,1,none⟩)) 73 rfl rfl rfl (by kernel_rfl) (fun _ _ _ h=>h) (by rfl) hHeld ?_ ?_
       ·(intro W hW;(try dsimp only at hW);go_simp)
       try simp only [Act.put,List.setIfInBounds_toArray,List.set_cons_zero,List.set_cons_succ]
       refine tk 5 (.string nm) 74 rfl rfl rfl (by kernel_rfl) (fun _ _ _ h=>h) (by rfl) hHeld ?_ ?_
       ·(intro W hW;(try dsimp only at hW);have c4:=hW.2;go_simp)
       try simp only [Act.put,List.setIfInBounds_toArray,List.set_cons_zero,List.set_cons_succ]
       clear c1 y1
       have D5:=hid (show Below w7.heap.size w7 w7.drew from (Below.refl _ _).drew)
       generalize w7.drew=wy at *
       have FY:=hid (F7.out.next D5.out)
       have YY:=hid (Y7.out.next D5.out)
       have k1:=FY.out.k1 nm
       have cb2:(cntK (nm :: loc) nm:Int)≤101:=by have:=CN.out;rw [cnt_cons,if_pos rfl];omega
       have cb3:(1:Int)≤(cntK (nm :: loc) nm:Int):=by rw [cnt_cons,if_pos rfl];omega
       have cw2:IntKind.i64.wrap ((cntK (nm :: loc) nm:Int) - 1)=(cntK (nm :: loc) nm:Int) - 1:=by go_arith
       refine wpAnyH_ready (rs:=[6]) (by kernel_rfl) (by simp) ?_
       refine cons2 rfl rfl (fun K9 hK=>?_)
       go_simp
       refine hK.out _ _ ⟨FY.out.c1,YY.out.c1⟩ (fun hX=>?_)
       clear hK K9 hHeld
       have hHeld:=hX
       clear hX
       try simp only [Act.put,List.setIfInBounds_toArray,List.set_cons_zero,List.set_cons_succ]
       refine tk 7 (.int .i64 ((cntK (nm :: loc) nm:Int) - 1)) 76 rfl rfl rfl (by kernel_rfl) (fun _ _ _ h=>h) (by rfl) hHeld ?_ ?_
       ·(intro W hW;(try dsimp only at hW);go_simp)
       try simp only [Act.put,List.setIfInBounds_toArray,List.set_cons_zero,List.set_cons_succ]
       clear k1
       obtain ⟨w8,r8,f8,g8⟩:=FY.out.pop
       have F8:=hid f8
       have g8':=((Go2.refl wy B b1 p).grown g8)
       have Y8:=hid (YY.out.grown g8 (fun e=>by injection e with e;have:=LT.out;have:=SZ.out;omega))
       have Q8:=hid ((Q7.out.next Y7.out.lt D5.out).go2 g8' YY.out.lt (by have:=LT.out;have:=SZ.out;omega) (by have:=LT.out;have:=SZ.out;omega))
       have N8:=hid ((N7.out.gwY D5.out).go2 g8' HS.out FY.out.sz)
       have G8:=hid ((H7.out.below D5.out).trans g8')
       clear f8 g8 g8'
       refine wpAnyH_ready (rs:=[8]) (by kernel_rfl) (by simp) ?_
       refine cons2 rfl rfl (fun K9 hK=>?_)
       go_simp
       go_wp2_with fail
       refine hK.out _ _ ⟨F8.out.c1,Y8.out.c1⟩ (fun hX=>?_)
       clear hK K9 hHeld
       have hHeld:=hX
       clear hX
       try simp only [Act.put,List.setIfInBounds_toArray,List.set_cons_zero,List.set_cons_succ]
       refine wpAnyH_done (by kernel_rfl) ?_ _
       clear F7 Y7 Q7 N7 H7 FY YY D5 r8 cb2 cb3
       go_wp2_with fail
       go_roundg (ts.length - (i+1))
       case measure=>omega
       case rel=>exact ⟨i+1,_,by omega,rfl,by rw [Int.natCast_add];rfl,⟨_,F8.out⟩,N8.out,Y8.out,Q8.out,G8.out,by rw [List.append_assoc];exact AC.out,by rw [List.length_append];have:=look_len rn (nm :: loc) k;have:=NL.out;omega⟩
      ·have q0':¬ (0:Int)<(i:Int):=by omega
       have EV:=hid (show (if true && decide (0<i) then nm :: loc else loc)=loc from by simp [q0])
       rw [EV.out] at KK AC
       clear EV
       have KC:=hid (KK.out _ _ _ ac F3.out (by have:=NL.out;omega) K3.out)
       obtain ⟨x0,x1,x2,x3,x4,x5,xz⟩:=X3.out
       go_upto_region 10 with (go_at_call 55;with_reducible refine Calls.mono KC.out ?_;rintro e w7 ⟨rfl,⟨fv7,f7⟩,g7⟩;have F7:=hid f7;have G7:=hid g7;clear f7 g7)
       clear x0 x1 x2 x3 x4 x5 xz KC
       have N7:=hid (N3.out.go2 G7.out HS.out F3.out.sz)
       have Y7:=hid (Y3.out.go2 G7.out (by have:=LT.out;have:=SZ.out;omega) (by have:=LT.out;have:=SZ.out;omega) Q3.out)
       have Q7:=hid (Q3.out.go2 G7.out Y3.out.lt (by have:=LT.out;have:=SZ.out;omega) (by have:=LT.out;have:=SZ.out;omega))
       have H7:=hid (G3.out.trans G7.out)
       clear N3 Y3 Q3 G3 G7 F3 K3 X3
       clear y0
       go_wp2_with fail
       go_roundg (ts.length - (i+1))
       case measure=>omega
       case rel=>exact ⟨i+1,_,by omega,rfl,by rw [Int.natCast_add];rfl,⟨_,F7.out⟩,N7.out,Y7.out,Q7.out,H7.out,by rw [List.append_assoc];exact AC.out,by rw [List.length_append];have:=look_len rn loc k;have:=NL.out;omega⟩
     ·obtain rfl:s=false:=by simpa using qs
      have EV:=hid (show (if false && decide (0<i) then nm :: loc else loc)=loc from by rfl)
      rw [EV.out] at KK AC
      clear EV
      have KC:=hid (KK.out _ _ _ ac F3.out (by have:=NL.out;omega) K3.out)
      obtain ⟨x0,x1,x2,x3,x4,x5,xz⟩:=X3.out
      go_upto_region 10 with (go_at_call 55;with_reducible refine Calls.mono KC.out ?_;rintro e w7 ⟨rfl,⟨fv7,f7⟩,g7⟩;have F7:=hid f7;have G7:=hid g7;clear f7 g7)
      clear x0 x1 x2 x3 x4 x5 xz KC
      have N7:=hid (N3.out.go2 G7.out HS.out F3.out.sz)
      have Y7:=hid (Y3.out.go2 G7.out (by have:=LT.out;have:=SZ.out;omega) (by have:=LT.out;have:=SZ.out;omega) Q3.out)
      have Q7:=hid (Q3.out.go2 G7.out Y3.out.lt (by have:=LT.out;have:=SZ.out;omega) (by have:=LT.out;have:=SZ.out;omega))
      have H7:=hid (G3.out.trans G7.out)
      clear N3 Y3 Q3 G3 G7 F3 K3 X3
      clear y0
      go_wp2_with fail
      go_roundg (ts.length - (i+1))
      case measure=>omega
      case rel=>exact ⟨i+1,_,by omega,rfl,by rw [Int.natCast_add];rfl,⟨_,F7.out⟩,N7.out,Y7.out,Q7.out,H7.out,by rw [List.append_assoc];exact AC.out,by rw [List.length_append];have:=look_len rn loc k;have:=NL.out;omega⟩
    ·have qi':¬ (i:Int)<(ts.length:Int):=by omega
     have FE:=hid (show ac=R from by rw [← II.out.aq,List.drop_eq_nil_of_le (by omega),lookL,List.append_nil])
     go_wp2_with fail
     go_returns
     exact ⟨rfl,by rw [← FE.out];exact II.out.fd,II.out.gs⟩
end Go.Proofs.YteknljnjcoehoaaGreatDoor
