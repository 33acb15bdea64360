/- Parts of the proof. -/
import Derived.Test.YtbeahnehjannpaaDoorKH
import Derived.Test.YtbeahnehjannpaaDoorKO
import Derived.BigQuiet
import Derived.Deep.RegionHeld3
namespace Go.Proofs.YtbeahnehjannpaaDoor
open Go.RowKit
set_option linter.unusedVariables false
set_option linter.unusedSimpArgs false
set_option maxRecDepth 100000 in
set_option maxHeartbeats 4000000 in
theorem rrow_5 {w:World} {p b c:Nat} {ws:List Wo} {d:Nat} {s:Sp} (h:Sw w p b c ws d s) (r:Tr × Sp) (hU:∀ w,Sw w p b c ws d s→Calls Tryd.prog 77 #[.pointer (some ⟨p,0,none⟩)] w fun e w'=>Rn w w' p b c ws d e r) :
  Calls Tryd.prog 71 #[.pointer (some ⟨p,0,none⟩),.int .i64 5] w fun e w'=>Rn w w' p b c ws d e r:=by
 have pl0:=h.pl
 have bl0:=h.bl
 have HB:=hid (B6.new w 31 (.string ⟨#[]⟩) (.string ⟨#[]⟩) (.int .i64 0) (.int .i64 0) (.int .i64 0) (.slice none 0 0))
 have HS0:Hid (Below w.heap.size w (w.alloc (.cells #[.string ⟨#[]⟩,.string ⟨#[]⟩,.int .i64 0,.int .i64 0,.int .i64 0,.slice none 0 0] 31))):=(Below.refl _ _).alloc (Nat.le_refl _) _
 have HS:=hid (h.next HS0.out)
 have HG:=hid ((Gr.refl w p).below HS0.out)
 have WS:=hid (show w.heap.size<(w.alloc (.cells #[.string ⟨#[]⟩,.string ⟨#[]⟩,.int .i64 0,.int .i64 0,.int .i64 0,.slice none 0 0] 31)).heap.size from by simp)
 have f0:=fd0
 have f1:=fd1
 have f3:=fd3
 have UH:=hid hU
 clear h hU
 go_enter Tryd.func71,Tryd.ntmps71
 go_upto_region 1 with fail
 generalize World.alloc w _=w1 at *
 obtain ⟨n0,hn0⟩:∃ n,n=w1.heap.size:=⟨_,rfl⟩
 have wn:w.heap.size<n0:=by rw [hn0];exact WS.out
 have pn:p<n0:=by omega
 have bn:b<n0:=by omega
 replace WS:=hid (Nat.le_of_eq hn0)
 clear hn0 HS0
 go_upto_region 2 with fail
 have PC:=hid (UH.out _ HS.out)
 go_wp2_with (go_at_call 77;with_reducible refine Calls.mono PC.out ?_;rintro e w9 h9;obtain ⟨g9,s9,sa9,sm9,sc9,rfl,nv9⟩:=h9.parts;have NV9:=hid nv9;replace HG:=hid (HG.out.trans g9);replace HB:=hid (HB.out.gr g9 (by omega));have WO9:=WS;replace WS:=hid (Nat.le_trans WS.out g9.size);replace HS:=hid s9;obtain ⟨u0,u1,u2,u3,u4,u5,uz⟩:=HB.out;have BF:=hid (HB.out.sets (.string r.1.op) (.string r.1.name) (.int .i64 (r.1.kind:Nat)) (.int .i64 r.1.n) (.int .i64 (r.1.pl:Nat)) (.slice sa9 sm9 sc9));have SF:=hid (HS.out.put6 (q:=w.heap.size) (by omega) (by omega) (.string r.1.op) (.string r.1.name) (.int .i64 (r.1.kind:Nat)) (.int .i64 r.1.n) (.int .i64 (r.1.pl:Nat)) (.slice sa9 sm9 sc9));have GF:=hid (HG.out.put6 (q:=w.heap.size) (by omega) (.string r.1.op) (.string r.1.name) (.int .i64 (r.1.kind:Nat)) (.int .i64 r.1.n) (.int .i64 (r.1.pl:Nat)) (.slice sa9 sm9 sc9));have NF:=hid (Nd.put6x (q:=w.heap.size) (m:=w.heap.size) NV9.out (Nat.lt_of_lt_of_le wn WO9.out) (Nat.le_of_lt (Nat.lt_of_lt_of_le wn WO9.out)) (.string r.1.op) (.string r.1.name) (.int .i64 (r.1.kind:Nat)) (.int .i64 r.1.n) (.int .i64 (r.1.pl:Nat)) (.slice sa9 sm9 sc9));clear h9 g9 s9 nv9 PC)
 generalize World.setCell _ ⟨w.heap.size,5,none⟩ _=wf at *
 obtain ⟨q0,q1,q2,q3,q4,q5,_⟩:=BF.out
 exact bodyPost_ret (v:=.agg #[.string r.1.op,.string r.1.name,.int .i64 (r.1.kind:Nat),.int .i64 r.1.n,.int .i64 (r.1.pl:Nat),.slice sa9 sm9 sc9]) (by simp [results,Tryd.results71,go_sem,q0,q1,q2,q3,q4,q5]) rfl ⟨GF.out,SF.out,_,rfl,_,rfl,NF.out⟩
def Mo (A:Ax):Prop:=∀ s,(A s).2.l.length≤s.l.length
theorem len_nx (s:Sp):s.nx.l.length≤s.l.length:=by show s.l.tail.length≤_;rw [List.length_tail];omega
theorem len_want (s:Sp) (t:ByteArray):(s.want t).l.length≤s.l.length:=by
 unfold Sp.want
 split
 ·exact len_nx s
 ·exact Nat.le_refl _
theorem len_nm (s:Sp):s.nm.2.l.length≤s.l.length:=by
 unfold Sp.nm
 split
 ·exact len_nx s
 ·exact Nat.le_refl _
theorem len_kd (s:Sp):s.kd.2.l.length≤s.l.length:=by
 unfold Sp.kd
 split
 ·exact len_nx s
 ·exact Nat.le_refl _
theorem len_lit (s:Sp):s.lit.2.l.length≤s.l.length:=by
 unfold Sp.lit
 split
 ·exact len_nx s
 ·exact Nat.le_refl _
theorem mo_loop {B:Ax} (hB:Mo B) (lv:Nat):∀ f t s,(loopX B lv f t s).2.l.length≤s.l.length
 | 0,t,s=>Nat.le_refl _
 | f+1,t,s=>by
  unfold loopX
  have h1:=hB s.nx
  have h2:=len_nx s
  split
  ·split
   ·show (B s.nx).2.l.length≤_;omega
   ·exact Nat.le_trans (mo_loop hB lv f _ _) (by omega)
  ·exact Nat.le_refl _
theorem mo_row {U:Ax} (hU:Mo U):∀ m,Mo (rowR U m)
 | 0=>hU
 | m+1=>fun s=>by
  unfold rowR
  exact Nat.le_trans (mo_loop (mo_row hU m) _ _ _ _) (mo_row hU m s)
theorem mo_prim {E:Ax} (hE:Mo E):Mo (primR E):=fun s=>by
 have n0:=len_nx s
 have q1:∀ z t,(E (Sp.want z t)).2.l.length≤z.l.length:=fun z t=>Nat.le_trans (hE _) (len_want z t)
 unfold primR
 split
 ·exact len_lit s
 split
 ·unfold pairR;exact Nat.le_trans (len_want _ _) (Nat.le_trans (q1 _ _) (Nat.le_trans (q1 _ _) n0))
 split
 ·unfold pairR;exact Nat.le_trans (len_want _ _) (Nat.le_trans (q1 _ _) (Nat.le_trans (q1 _ _) n0))
 split
 ·unfold openR;exact Nat.le_trans (len_want _ _) (Nat.le_trans (hE _) n0)
 split
 ·unfold lenR;exact Nat.le_trans (len_want _ _) (Nat.le_trans (q1 _ _) n0)
 split
 ·unfold atR;exact Nat.le_trans (len_want _ _) (Nat.le_trans (q1 _ _) (Nat.le_trans (len_nm _) (Nat.le_trans (len_want _ _) n0)))
 split
 ·unfold sumR;exact Nat.le_trans (len_want _ _) (Nat.le_trans (q1 _ _) (Nat.le_trans (q1 _ _) (Nat.le_trans (len_nm _) (Nat.le_trans (len_want _ _) n0))))
 ·exact len_nm s
theorem mo_un {U:Option Ax} {E:Ax} (hU:∀ V,U=some V→Mo V) (hE:Mo E):Mo (unR U E):=fun s=>by
 have t1:∀ op,(trnR U op s).2.l.length≤s.l.length:=fun op=>by
  unfold trnR
  cases U with
  | none=>exact len_nx s
  | some V=>exact Nat.le_trans (hU V rfl _) (len_nx s)
 unfold unR
 split
 ·exact t1 _
 split
 ·exact t1 _
 ·exact mo_prim hE s
theorem mo_ins {U E:Ax} (hU:Mo U) (hE:Mo E):Mo (insR U E):=fun s=>by
 have q1:∀ z t,(E (Sp.want z t)).2.l.length≤z.l.length:=fun z t=>Nat.le_trans (hE _) (len_want z t)
 unfold insR
 split
 ·unfold ifR;exact Nat.le_trans (q1 _ _) (Nat.le_trans (q1 _ _) (Nat.le_trans (hE _) (len_nx s)))
 ·exact mo_row hU 5 s
theorem mo_ex {R:Option (Ax × Ax)} (h:∀ V,R=some V→Mo V.1∧Mo V.2):Mo (exR R):=fun s=>by
 unfold exR
 split
 ·cases R with
  | none=>exact Nat.le_refl _
  | some V=>exact mo_ins (h V rfl).1 (h V rfl).2 s
 ·exact Nat.le_refl _
theorem mo_rec:∀ n,Mo (recR n).1∧Mo (recR n).2
 | 0=>by
  have e:Mo (exR none):=mo_ex (fun V h=>by cases h)
  exact ⟨mo_un (fun V h=>by cases h) e,e⟩
 | n+1=>by
  obtain ⟨h1,h2⟩:=mo_rec n
  have e:Mo (exR (some (recR n))):=mo_ex (fun V h=>by injection h with h;subst h;exact ⟨h1,h2⟩)
  exact ⟨mo_un (fun V h=>by injection h with h;subst h;exact h1) e,e⟩
theorem rrows {p b c:Nat} {ws:List Wo} {d:Nat} (U:Ax) (hM:Mo U) (hU:∀ w s,Sw w p b c ws d s→Calls Tryd.prog 77 #[.pointer (some ⟨p,0,none⟩)] w fun e w'=>Rn w w' p b c ws d e (U s)) (w:World) (s:Sp) (h:Sw w p b c ws d s) :
  Calls Tryd.prog 71 #[.pointer (some ⟨p,0,none⟩),.int .i64 0] w fun e w'=>Rn w w' p b c ws d e (rowR U 5 s):=by
 have r5:∀ w s,Sw w p b c ws d s→Calls Tryd.prog 71 #[.pointer (some ⟨p,0,none⟩),.int .i64 5] w fun e w'=>Rn w w' p b c ws d e (rowR U 0 s):=fun w s h=>rrow_5 h _ (fun w h=>hU w s h)
 have r4:∀ w s,Sw w p b c ws d s→Calls Tryd.prog 71 #[.pointer (some ⟨p,0,none⟩),.int .i64 4] w fun e w'=>Rn w w' p b c ws d e (rowR U 1 s):=fun w s h=>rrow_4 h _ r5 (mo_row hM 0) _ rfl
 have r3:∀ w s,Sw w p b c ws d s→Calls Tryd.prog 71 #[.pointer (some ⟨p,0,none⟩),.int .i64 3] w fun e w'=>Rn w w' p b c ws d e (rowR U 2 s):=fun w s h=>rrow_3 h _ r4 (mo_row hM 1) _ rfl
 have r2:∀ w s,Sw w p b c ws d s→Calls Tryd.prog 71 #[.pointer (some ⟨p,0,none⟩),.int .i64 2] w fun e w'=>Rn w w' p b c ws d e (rowR U 3 s):=fun w s h=>rrow_2 h _ r3 (mo_row hM 2) _ rfl
 have r1:∀ w s,Sw w p b c ws d s→Calls Tryd.prog 71 #[.pointer (some ⟨p,0,none⟩),.int .i64 1] w fun e w'=>Rn w w' p b c ws d e (rowR U 4 s):=fun w s h=>rrow_1 h _ r2 (mo_row hM 3) _ rfl
 exact rrow_0 h _ r1 (mo_row hM 4) _ rfl
theorem rprim_any {p b c:Nat} {ws:List Wo} {d:Nat} (E:Ax) (hE:∀ w s,Sw w p b c ws d s→Calls Tryd.prog 45 #[.pointer (some ⟨p,0,none⟩)] w fun e w'=>Rn w w' p b c ws d e (E s)) (w:World) (s:Sp) (h:Sw w p b c ws d s) :
  Calls Tryd.prog 81 #[.pointer (some ⟨p,0,none⟩)] w fun e w'=>Rn w w' p b c ws d e (primR E s):=by
 cases y0:s.islit with
 | true=>rw [show primR E s=s.lit from by unfold primR;rw [if_pos y0]];exact rprim_lit h y0 _ rfl
 | false =>
 cases y1:s.is sMin with
 | true=>rw [show primR E s=pairR E sMin s from by unfold primR;rw [y0,y1];rfl];exact rprim_min h E hE y0 y1 _ _ rfl rfl
 | false =>
 cases y2:s.is sMax with
 | true=>rw [show primR E s=pairR E sMax s from by unfold primR;rw [y0,y1,y2];rfl];exact rprim_max h E hE y0 y1 y2 _ _ rfl rfl
 | false =>
 cases y3:s.is sOpen with
 | true=>rw [show primR E s=openR E s from by unfold primR;rw [y0,y1,y2,y3];rfl];exact rprim_open h E hE y0 y1 y2 y3 _ rfl
 | false =>
 cases y4:s.is sLen with
 | true=>rw [show primR E s=lenR E s from by unfold primR;rw [y0,y1,y2,y3,y4];rfl];exact rprim_len h E hE y0 y1 y2 y3 y4 _ rfl
 | false =>
 cases y5:s.is sAt with
 | true=>rw [show primR E s=atR E s from by unfold primR;rw [y0,y1,y2,y3,y4,y5];rfl];exact rprim_at h E hE y0 y1 y2 y3 y4 y5 _ _ rfl rfl
 | false =>
 cases y6:s.is sSum with
 | true=>rw [show primR E s=sumR E s from by unfold primR;rw [y0,y1,y2,y3,y4,y5,y6];rfl];exact rprim_sum h E hE y0 y1 y2 y3 y4 y5 y6 _ _ _ rfl rfl rfl
 | false=>rw [show primR E s=(.nd sName s.nm.1 0 0 (aw s.l) [],s.nm.2) from by unfold primR;rw [y0,y1,y2,y3,y4,y5,y6];rfl];exact rprim_name h y0 y1 y2 y3 y4 y5 y6 _ rfl
theorem rrec {p b c:Nat} {ws:List Wo}:∀ n,n≤40→∀ d,d+n=40→(∀ w s,Sw w p b c ws d s→Calls Tryd.prog 77 #[.pointer (some ⟨p,0,none⟩)] w fun e w'=>Rn w w' p b c ws d e ((recR n).1 s))∧(∀ w s,Sw w p b c ws d s→Calls Tryd.prog 45 #[.pointer (some ⟨p,0,none⟩)] w fun e w'=>Rn w w' p b c ws d e ((recR n).2 s))
 | 0,_,d,hd=>by
  have hd:d=40:=hd
  subst hd
  have ex:∀ w s,Sw w p b c ws 40 s→Calls Tryd.prog 45 #[.pointer (some ⟨p,0,none⟩)] w fun e w'=>Rn w w' p b c ws 40 e (exR none s):=fun w s h=>by
   cases y:s.ok with
   | false=>rw [show exR none s=(Tr.zero,s) from by unfold exR;rw [y];rfl];exact rexpr_bad h y
   | true=>rw [show exR none s=(Tr.zero,s.lim) from by unfold exR;rw [y];rfl];exact rexpr_lim h y
  refine ⟨fun w s h=>?_,ex⟩
  show Calls _ _ _ _ fun e w'=>Rn w w' p b c ws 40 e (unR none (exR none) s)
  cases y1:s.is sMinus with
  | true=>rw [show unR none (exR none) s=(Tr.zero,s.nx.lim) from by unfold unR;rw [y1];rfl];exact run_neg_lim h y1
  | false =>
  cases y2:s.is sNot with
  | true=>rw [show unR none (exR none) s=(Tr.zero,s.nx.lim) from by unfold unR;rw [y1,y2];rfl];exact run_not_lim h y1 y2
  | false=>rw [show unR none (exR none) s=primR (exR none) s from by unfold unR;rw [y1,y2];rfl];exact run_prim h y1 y2 _ (fun w h=>rprim_any _ ex w s h)
 | n+1,hn,d,hd=>by
  obtain ⟨iu,ie⟩:=rrec n (by omega) (d+1) (by omega)
  have ins:∀ w s,Sw w p b c ws (d+1) s→Calls Tryd.prog 59 #[.pointer (some ⟨p,0,none⟩)] w fun e w'=>Rn w w' p b c ws (d+1) e (insR (recR n).1 (recR n).2 s):=fun w s h=>by
   cases y:s.is sIf with
   | true=>rw [show insR (recR n).1 (recR n).2 s=ifR (recR n).2 s from by unfold insR;rw [y];rfl];exact rins_if h _ ie y _ _ _ rfl rfl rfl
   | false=>rw [show insR (recR n).1 (recR n).2 s=rowR (recR n).1 5 s from by unfold insR;rw [y];rfl];exact rins_row h y _ (fun w h=>rrows _ (mo_rec n).1 iu w s h)
  have ex:∀ w s,Sw w p b c ws d s→Calls Tryd.prog 45 #[.pointer (some ⟨p,0,none⟩)] w fun e w'=>Rn w w' p b c ws d e (exR (some (recR n)) s):=fun w s h=>by
   cases y:s.ok with
   | false=>rw [show exR (some (recR n)) s=(Tr.zero,s) from by unfold exR;rw [y];rfl];exact rexpr_bad h y
   | true=>rw [show exR (some (recR n)) s=insR (recR n).1 (recR n).2 s from by unfold exR;rw [y];rfl];exact rexpr_ok h y (by omega) _ (fun w h=>ins w s h)
  refine ⟨fun w s h=>?_,ex⟩
  show Calls _ _ _ _ fun e w'=>Rn w w' p b c ws d e (unR (some (recR n).1) (exR (some (recR n))) s)
  cases y1:s.is sMinus with
  | true=>rw [show unR (some (recR n).1) (exR (some (recR n))) s=(one sNeg ⟨#[]⟩ (aw s.l) ((recR n).1 s.nx).1,((recR n).1 s.nx).2) from by unfold unR;rw [y1];rfl];exact run_neg_ok h y1 (by omega) _ (fun w h=>iu w _ h)
  | false =>
  cases y2:s.is sNot with
  | true=>rw [show unR (some (recR n).1) (exR (some (recR n))) s=(one sNot ⟨#[]⟩ (aw s.l) ((recR n).1 s.nx).1,((recR n).1 s.nx).2) from by unfold unR;rw [y1,y2];rfl];exact run_not_ok h y1 y2 (by omega) _ (fun w h=>iu w _ h)
  | false=>rw [show unR (some (recR n).1) (exR (some (recR n))) s=primR (exR (some (recR n))) s from by unfold unR;rw [y1,y2];rfl];exact run_prim h y1 y2 _ (fun w h=>rprim_any _ ex w s h)
end Go.Proofs.YtbeahnehjannpaaDoor
