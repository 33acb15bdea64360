/- Parts of the proof. -/
import Derived.Test.YtbeahnehjannpaaDoorKG
import Derived.BigQuiet
import Derived.Deep.RegionHeld3
namespace Go.Proofs.YtbeahnehjannpaaDoor
open Go.RowKit
set_option linter.unusedVariables false
set_option linter.unusedSimpArgs false
structure Bq (w:World) (n q:Nat) (t:Tr) (sl:Value):Prop where
 b:B6 w q (.string t.op) (.string t.name) (.int .i64 (t.kind:Nat)) (.int .i64 t.n) (.int .i64 (t.pl:Nat)) sl
 d:Nd w (fun g=>n≤g∧g≠q) sl t.kids
 l:n≤q
theorem Bq.gr {w w':World} {n g p:Nat} {t:Tr} {sl:Value} (h:Bq w n g t sl) (q:Gr w w' p) (hp:p<n):Bq w' n g t sl :=
 ⟨h.b.gr q (by have:=h.l;omega),h.d.keep fun g s l=>⟨s,q.block g l (fun e=>by injection e with e;omega)⟩,h.l⟩
theorem Bq.next {w w':World} {n g:Nat} {t:Tr} {sl:Value} (h:Bq w n g t sl) (q:Below w.heap.size w w'):Bq w' n g t sl :=
 ⟨h.b.next q,h.d.keep fun g s l=>⟨s,q.block g l⟩,h.l⟩
theorem Bq.new {w:World} {n m:Nat} {t:Tr} {sl:Value} (hn:Nd w (fun q=>n≤q) sl t.kids) (hm:m≤n) (hw:m≤w.heap.size) (ty:TypeId):Bq (w.alloc (.cells #[.string t.op,.string t.name,.int .i64 (t.kind:Nat),.int .i64 t.n,.int .i64 (t.pl:Nat),sl] ty)) m w.heap.size t sl :=
 ⟨B6.new w ty _ _ _ _ _ _,hn.keep fun g s l=>⟨⟨Nat.le_trans hm s,by omega⟩,((Below.refl _ _).alloc (Nat.le_refl _) _).block g l⟩,hw⟩
def Os (w:World) (g:Nat) (l:List ByteArray):Prop:=∀ i t,l[i]?=some t→w.cell? ⟨g,i,none⟩=some (.string t)
theorem Os.keep {w w':World} {g:Nat} {l:List ByteArray} (h:Os w g l) (e:w'.heap[g]?=w.heap[g]?):Os w' g l:=fun i t q=>by rw [World.cell?_of_block (a:=⟨g,i,none⟩) e];exact h i t q
theorem Os.lt {w:World} {g:Nat} {l:List ByteArray} (h:Os w g l) (hl:0<l.length):g<w.heap.size:=World.block_lt_of_cell? _ _ (h 0 _ (List.getElem?_eq_getElem hl))
structure Lp (w wr:World) (p b c:Nat) (ws:List Wo) (d n0 q g:Nat) (ops:List ByteArray) (t:Tr) (sl:Value) (s:Sp):Prop where
 hs:Sw wr p b c ws d s
 hg:Gr w wr p
 hb:B6 wr w.heap.size (.string ⟨#[]⟩) (.string ⟨#[]⟩) (.int .i64 0) (.int .i64 0) (.int .i64 0) (.slice none 0 0)
 sz:n0≤wr.heap.size
 bq:Bq wr n0 q t sl
 os:Os wr g ops
 ol:0<ops.length
 pn:p<w.heap.size
 bn:b<w.heap.size
 wn:w.heap.size<n0
 gn:n0≤g
theorem Lp.next {w wr w':World} {p b c:Nat} {ws:List Wo} {d n0 q g:Nat} {ops:List ByteArray} {t:Tr} {sl:Value} {s:Sp} (h:Lp w wr p b c ws d n0 q g ops t sl s) (k:Below wr.heap.size wr w'):Lp w w' p b c ws d n0 q g ops t sl s :=
 ⟨h.hs.next k,h.hg.below k,h.hb.next k,Nat.le_trans h.sz k.size,h.bq.next k,h.os.keep (k.block g (h.os.lt h.ol)),h.ol,h.pn,h.bn,h.wn,h.gn⟩
theorem Lp.gr {w wr w':World} {p b c:Nat} {ws:List Wo} {d n0 q g:Nat} {ops:List ByteArray} {t:Tr} {sl:Value} {s s':Sp} (h:Lp w wr p b c ws d n0 q g ops t sl s) (hs:Sw w' p b c ws d s') (k:Gr wr w' p):Lp w w' p b c ws d n0 q g ops t sl s' :=
 ⟨hs,h.hg.trans k,h.hb.gr k (by have:=h.pn;omega),Nat.le_trans h.sz k.size,h.bq.gr k (by have:=h.pn;have:=h.wn;omega),h.os.keep (k.block g (h.os.lt h.ol) (fun e=>by injection e with e;have:=h.pn;have:=h.wn;have:=h.gn;omega)),h.ol,h.pn,h.bn,h.wn,h.gn⟩
theorem Lp.up {w wr:World} {p b c:Nat} {ws:List Wo} {d n0 q g:Nat} {ops:List ByteArray} {t:Tr} {sl:Value} {s:Sp} (h:Lp w wr p b c ws d n0 q g ops t sl s) (t':Tr) (sl':Value) (hn:Nd wr (fun g=>n0≤g∧g≠q) sl' t'.kids) (hq:g≠q) :
  Lp w ((((((wr.setCell ⟨q,0,none⟩ (.string t'.op)).setCell ⟨q,1,none⟩ (.string t'.name)).setCell ⟨q,2,none⟩ (.int .i64 (t'.kind:Nat))).setCell ⟨q,3,none⟩ (.int .i64 t'.n)).setCell ⟨q,4,none⟩ (.int .i64 (t'.pl:Nat))).setCell ⟨q,5,none⟩ sl') p b c ws d n0 q g ops t' sl' s:=by
 have a1:=h.pn
 have a2:=h.wn
 have a3:=h.bq.l
 have a4:=h.bn
 exact ⟨h.hs.put6 (by omega) (by omega) _ _ _ _ _ _,h.hg.put6 (by omega) _ _ _ _ _ _,h.hb.put6 (by omega) _ _ _ _ _ _,by rw [size6];exact h.sz,⟨h.bq.b.sets _ _ _ _ _ _,hn.put6 (fun e=>e.2 rfl) _ _ _ _ _ _,h.bq.l⟩,h.os.keep (heap6 _ _ _ _ _ _ _ _ _ hq),h.ol,h.pn,h.bn,h.wn,h.gn⟩
def rowOps (lv:Nat):List ByteArray :=
 match lv with
 | 0=>[⟨#[111,114]⟩]
 | 1=>[⟨#[97,110,100]⟩]
 | 2=>[⟨#[60]⟩,⟨#[60,61]⟩,⟨#[62]⟩,⟨#[62,61]⟩,⟨#[61,61]⟩,⟨#[33,61]⟩]
 | 3=>[⟨#[43]⟩,⟨#[45]⟩]
 | _=>[⟨#[42]⟩,⟨#[47]⟩]
theorem os_new (w:World) (l:List ByteArray) (ty:TypeId):Os (w.alloc (.cells (l.map Value.string).toArray ty)) w.heap.size l:=by
 intro i s h
 simp [h]
theorem Os.al {w:World} {g:Nat} {l:List ByteArray} (h:Os w g l) (hl:0<l.length) (o:Obj):Os (w.alloc o) g l:=h.keep (((Below.refl w.heap.size w).alloc (Nat.le_refl _) o).block g (h.lt hl))
theorem eqB_eqX {a b:ByteArray} (h:eqB a b=true):a=b:=by
 unfold eqB at h
 rw [beq_iff_eq] at h
 obtain ⟨x⟩:=a
 obtain ⟨y⟩:=b
 have:x=y:=Array.toList_inj.1 h
 rw [this]
theorem is_tw {s:Sp} {t:ByteArray} (h:s.is t=true):tw s.l=t:=by
 unfold Sp.is at h
 simp only [Bool.and_eq_true] at h
 exact eqB_eqX h.2
theorem lv_any (x : ByteArray) (lv : Nat) (h : lv < 5) : (lvF x == (lv : Int)) = (rowOps lv).any (fun t => eqB x t) := by
  cases e : (rowOps lv).any (fun t => eqB x t) with
  | true =>
    obtain ⟨t, ht, q⟩ := List.any_eq_true.1 e
    have q := eqB_eqX q
    subst q
    match lv, h with
    | 0, _ => simp only [rowOps, List.mem_singleton] at ht; subst ht; decide
    | 1, _ => simp only [rowOps, List.mem_singleton] at ht; subst ht; decide
    | 2, _ => simp only [rowOps, List.mem_cons, List.not_mem_nil, or_false] at ht; rcases ht with rfl | rfl | rfl | rfl | rfl | rfl <;> decide
    | 3, _ => simp only [rowOps, List.mem_cons, List.not_mem_nil, or_false] at ht; rcases ht with rfl | rfl <;> decide
    | 4, _ => simp only [rowOps, List.mem_cons, List.not_mem_nil, or_false] at ht; rcases ht with rfl | rfl <;> decide
  | false =>
    match lv, h with
    | 0, _ => simp only [rowOps, List.any_cons, List.any_nil, Bool.or_false] at e; unfold lvF; rw [e]; simp only [Bool.false_eq_true, if_false]; repeat' split
              all_goals rfl
    | 1, _ => simp only [rowOps, List.any_cons, List.any_nil, Bool.or_false] at e; unfold lvF; rw [e]; simp only [Bool.false_eq_true, if_false]; repeat' split
              all_goals rfl
    | 2, _ => simp only [rowOps, List.any_cons, List.any_nil, Bool.or_false, Bool.or_eq_false_iff] at e; obtain ⟨e1, e2, e3, e4, e5, e6⟩ := e; unfold lvF; rw [e1, e2, e3, e4, e5, e6]; simp only [Bool.false_eq_true, if_false, Bool.or_false]; repeat' split
              all_goals rfl
    | 3, _ => simp only [rowOps, List.any_cons, List.any_nil, Bool.or_false, Bool.or_eq_false_iff] at e; obtain ⟨e1, e2⟩ := e; unfold lvF; rw [e1, e2]; simp only [Bool.false_eq_true, if_false, Bool.or_false]; repeat' split
              all_goals rfl
    | 4, _ => simp only [rowOps, List.any_cons, List.any_nil, Bool.or_false, Bool.or_eq_false_iff] at e; obtain ⟨e1, e2⟩ := e; unfold lvF; rw [e1, e2]; simp only [Bool.false_eq_true, if_false, Bool.or_false]; repeat' split
              all_goals rfl
theorem opAt_any (lv:Nat) (h:lv<5) (s:Sp):opAt lv s=(rowOps lv).any (fun t=>s.is t):=by
 unfold opAt
 rw [lv_any _ _ h]
 have:(fun t=>s.is t)=(fun t=>(s.ok && (kw s.l==2 || kw s.l==7)) && eqB (tw s.l) t):=rfl
 rw [this]
 generalize (s.ok && (kw s.l==2 || kw s.l==7))=z
 cases z with
 | true=>simp
 | false=>simp
theorem loopX_no {B:Ax} {lv f:Nat} {t:Tr} {s:Sp} (h:opAt lv s=false):loopX B lv f t s=(t,s):=by
 cases f with
 | zero=>rfl
 | succ f=>unfold loopX;rw [h];rfl
theorem loop_two {B:Ax} {f:Nat} {t:Tr} {s:Sp} (h:opAt 2 s=true) (hf:0<f):loopX B 2 f t s=(two (tw s.l) (aw s.l) t (B s.nx).1,(B s.nx).2):=by
 cases f with
 | zero=>omega
 | succ f=>unfold loopX;rw [h];rfl
theorem loop_on {B:Ax} {lv f:Nat} {t:Tr} {s:Sp} (h:opAt lv s=true) (h2:lv≠2) (hf:0<f):loopX B lv f t s=loopX B lv (f - 1) (two (tw s.l) (aw s.l) t (B s.nx).1) (B s.nx).2:=by
 cases f with
 | zero=>omega
 | succ f=>rw [loopX,if_pos h,if_neg h2];rfl
theorem nx_len {s:Sp} (h:0<s.l.length):s.nx.l.length<s.l.length:=by
 show s.l.tail.length<_
 rw [List.length_tail]
 omega
set_option maxRecDepth 100000 in
set_option maxHeartbeats 4000000 in
theorem rrow_0 {w:World} {p b c:Nat} {ws:List Wo} {d:Nat} {s:Sp} (h:Sw w p b c ws d s) (B:Ax) (hB:∀ w s,Sw w p b c ws d s→Calls Tryd.prog 71 #[.pointer (some ⟨p,0,none⟩),.int .i64 1] w fun e w'=>Rn w w' p b c ws d e (B s)) (hM:∀ s,(B s).2.l.length≤s.l.length) (R:Tr × Sp) (hR:loopX B 0 (B s).2.l.length (B s).1 (B s).2=R) :
  Calls Tryd.prog 71 #[.pointer (some ⟨p,0,none⟩),.int .i64 0] w fun e w'=>Rn w w' p b c ws d e R:=by
 have pl0:=h.pl
 have bl0:=h.bl
 have HB:=hid (B6.new w 31 (.string ⟨#[]⟩) (.string ⟨#[]⟩) (.int .i64 0) (.int .i64 0) (.int .i64 0) (.slice none 0 0))
 have HS0:Hid (Below w.heap.size w (w.alloc (.cells #[.string ⟨#[]⟩,.string ⟨#[]⟩,.int .i64 0,.int .i64 0,.int .i64 0,.slice none 0 0] 31))):=(Below.refl _ _).alloc (Nat.le_refl _) _
 have HS:=hid (h.next HS0.out)
 have HG:=hid ((Gr.refl w p).below HS0.out)
 have WS:=hid (show w.heap.size<(w.alloc (.cells #[.string ⟨#[]⟩,.string ⟨#[]⟩,.int .i64 0,.int .i64 0,.int .i64 0,.slice none 0 0] 31)).heap.size from by simp)
 have f0:=fd0
 have f1:=fd1
 have f3:=fd3
 have BH:=hid hB
 have MH:=hid hM
 obtain ⟨r,hr⟩:∃ r,B s=r:=⟨_,rfl⟩
 rw [hr] at hR
 have RH:=hid hR
 have HRR:=hid hr
 clear h hB hM hR hr
 go_enter Tryd.func71,Tryd.ntmps71
 go_upto_region 1 with fail
 generalize World.alloc w _=w1 at *
 obtain ⟨n0,hn0⟩:∃ n,n=w1.heap.size:=⟨_,rfl⟩
 have wn:w.heap.size<n0:=by rw [hn0];exact WS.out
 have pn:p<n0:=by omega
 have bn:b<n0:=by omega
 replace WS:=hid (Nat.le_of_eq hn0)
 clear hn0 HS0
 go_upto_region 4 with fail
 have AL:=hid (show Below w1.heap.size w1 ((((((w1.alloc (.cells #[.string ⟨#[111,114]⟩] 9)).alloc (.cells #[.string ⟨#[97,110,100]⟩] 9)).alloc (.cells #[.string ⟨#[60]⟩,.string ⟨#[60,61]⟩,.string ⟨#[62]⟩,.string ⟨#[62,61]⟩,.string ⟨#[61,61]⟩,.string ⟨#[33,61]⟩] 9)).alloc (.cells #[.string ⟨#[43]⟩,.string ⟨#[45]⟩] 9)).alloc (.cells #[.string ⟨#[42]⟩,.string ⟨#[47]⟩] 9)).alloc (.cells #[.slice (some ⟨w1.heap.size,0,none⟩) 1 1,.slice (some ⟨w1.heap.size+1,0,none⟩) 1 1,.slice (some ⟨w1.heap.size+1+1,0,none⟩) 6 6,.slice (some ⟨w1.heap.size+1+1+1,0,none⟩) 2 2,.slice (some ⟨w1.heap.size+1+1+1+1,0,none⟩) 2 2] 23)) from ((((((Below.refl _ _).alloc (by simp) _).alloc (by simp) _).alloc (by simp;omega) _).alloc (by simp;omega) _).alloc (by simp;omega) _).alloc (by simp;omega) _)
 have OS:=hid (show Os ((((((w1.alloc (.cells #[.string ⟨#[111,114]⟩] 9)).alloc (.cells #[.string ⟨#[97,110,100]⟩] 9)).alloc (.cells #[.string ⟨#[60]⟩,.string ⟨#[60,61]⟩,.string ⟨#[62]⟩,.string ⟨#[62,61]⟩,.string ⟨#[61,61]⟩,.string ⟨#[33,61]⟩] 9)).alloc (.cells #[.string ⟨#[43]⟩,.string ⟨#[45]⟩] 9)).alloc (.cells #[.string ⟨#[42]⟩,.string ⟨#[47]⟩] 9)).alloc (.cells #[.slice (some ⟨w1.heap.size,0,none⟩) 1 1,.slice (some ⟨w1.heap.size+1,0,none⟩) 1 1,.slice (some ⟨w1.heap.size+1+1,0,none⟩) 6 6,.slice (some ⟨w1.heap.size+1+1+1,0,none⟩) 2 2,.slice (some ⟨w1.heap.size+1+1+1+1,0,none⟩) 2 2] 23)) (w1.heap.size) [⟨#[111,114]⟩] from ((((((show Os (w1.alloc (.cells #[.string ⟨#[111,114]⟩] 9)) (w1.heap.size) [⟨#[111,114]⟩] from by have:=os_new w1 [⟨#[111,114]⟩] 9;simpa only [World.size_alloc,List.map_cons,List.map_nil] using this).al (by decide) _).al (by decide) _).al (by decide) _).al (by decide) _).al (by decide) _))
 have go:n0≤w1.heap.size:=by have:=WS.out;omega
 replace HS:=hid (HS.out.next AL.out)
 replace HG:=hid (HG.out.below AL.out)
 replace HB:=hid (HB.out.next AL.out)
 replace WS:=hid (Nat.le_trans WS.out AL.out.size)
 clear AL
 generalize World.alloc (World.alloc (World.alloc (World.alloc (World.alloc (World.alloc w1 _) _) _) _) _) _=w2 at *
 generalize w1.heap.size=bo at *
 have EC:=hid (BH.out _ _ HS.out)
 rw [HRR.out] at EC
 go_wp2_with (go_at_call 71;with_reducible refine Calls.mono EC.out ?_;rintro e w4 h4;obtain ⟨g4,s4,sa4,sm4,sc4,rfl,nv4⟩:=h4.parts;have NV4:=hid nv4;have WO4:=WS;have OS4:=hid (OS.out.keep (g4.block bo (OS.out.lt (by decide)) (fun e=>by injection e with e;omega)));replace HG:=hid (HG.out.trans g4);replace HB:=hid (HB.out.gr g4 (by omega));replace WS:=hid (Nat.le_trans WS.out g4.size);replace HS:=hid s4;clear h4 g4 s4 nv4 EC OS)
 have AL:=hid (show Below w4.heap.size w4 (w4.alloc (.cells #[.string r.1.op,.string r.1.name,.int .i64 (r.1.kind:Nat),.int .i64 r.1.n,.int .i64 (r.1.pl:Nat),.slice sa4 sm4 sc4] 31)) from (Below.refl _ _).alloc (Nat.le_refl _) _)
 have bq:bo<w4.heap.size:=OS4.out.lt (by decide)
 have qn:n0≤w4.heap.size:=WS.out
 have LP:=hid (show Lp w (w4.alloc (.cells #[.string r.1.op,.string r.1.name,.int .i64 (r.1.kind:Nat),.int .i64 r.1.n,.int .i64 (r.1.pl:Nat),.slice sa4 sm4 sc4] 31)) p b c ws d n0 w4.heap.size bo [⟨#[111,114]⟩] r.1 (.slice sa4 sm4 sc4) r.2 from ⟨HS.out.next AL.out,HG.out.below AL.out,HB.out.next AL.out,Nat.le_trans WS.out AL.out.size,Bq.new NV4.out WO4.out WS.out 31,OS4.out.al (by decide) _,by decide,by omega,by omega,wn,go⟩)
 clear AL HS HG HB WS WO4 NV4 OS4 HRR
 generalize World.alloc w4 _=y4 at *
 generalize w4.heap.size=q at *
 go_loopg [7] (r.2.l.length) (fun g ov wr=>∃ (f:Nat) (t:Tr) (sa:Option Addr) (sm sc:Nat) (z:Sp),g=z.l.length∧Hid (Lp w wr p b c ws d n0 q bo [⟨#[111,114]⟩] t (.slice sa sm sc) z)∧Hid (loopX B 0 f t z=R∧z.l.length≤f))
 case atStart=>exact ⟨_,r.1,_,_,_,r.2,rfl,LP,⟨RH.out,Nat.le_refl _⟩⟩
 case round =>
  clear LP RH
  obtain ⟨f,t,sa,sm,sc,z,rfl,LP,RI⟩:=hrel
  have ZL:=hid (LP.out.hs.len)
  have WC:=hid (rw_any LP.out.hs)
  have OA:=hid (opAt_any 0 (by decide) z)
  go_wp2_with (go_at_call 40;with_reducible refine Calls.mono WC.out ?_;rintro e w5 ⟨rfl,b5⟩;replace LP:=hid (LP.out.next b5);clear b5 WC)
  refine wp_loop_rounds 2 ?_
  cases y0:z.is ⟨#[111,114]⟩ with
  | true =>
   have Y0:=hid y0
   clear y0
   rw [rounds_succ]
   have o0:=LP.out.os 0 _ rfl
   have TK:=hid (rtake_any LP.out.hs ⟨#[111,114]⟩)
   rw [tk_yes Y0.out,Y0.out] at TK
   go_wp2_with fail
   go_at_call 41
   with_reducible refine Calls.mono TK.out ?_
   rintro e w10 ⟨rfl,h10,g10⟩
   replace LP:=hid (LP.out.gr h10 g10)
   have p0:=LP.out.os 0 _ rfl
   clear h10 g10 TK o0
   go_wp2_with fail
   rw [rounds_succ]
   go_upto_region 12 with fail
   have TW:=hid (is_tw Y0.out)
   have OT:=hid (show opAt 0 z=true from by rw [OA.out];simp [rowOps,Y0.out])
   obtain ⟨r2,hr2⟩:∃ r2,B z.nx=r2:=⟨_,rfl⟩
   have EC:=hid (BH.out _ _ LP.out.hs)
   rw [hr2] at EC
   have R2:=hid hr2
   clear hr2
   go_upto_region 15 with (go_at_call 71;with_reducible refine Calls.mono EC.out ?_;rintro e w20 h20;obtain ⟨g20,s20,sa20,sm20,sc20,rfl,nv20⟩:=h20.parts;have QL:=hid LP.out.bq.b.lt;have NV20:=hid nv20;replace LP:=hid (LP.out.gr s20 g20);have GS:=hid g20.size;clear h20 g20 s20 nv20 EC)
   have BB:=hid (Bx.new (m:=q+1) NV20.out QL.out (Nat.le_trans QL.out GS.out) 31)
   have AL:=hid (show Below w20.heap.size w20 (w20.alloc (.cells #[.string r2.1.op,.string r2.1.name,.int .i64 (r2.1.kind:Nat),.int .i64 r2.1.n,.int .i64 (r2.1.pl:Nat),.slice sa20 sm20 sc20] 31)) from (Below.refl _ _).alloc (Nat.le_refl _) _)
   replace LP:=hid (LP.out.next AL.out)
   have gb:q<w20.heap.size:=BB.out.l
   clear AL NV20 QL GS
   generalize World.alloc w20 _=y20 at *
   generalize w20.heap.size=bb at *
   obtain ⟨e0,e1,e2,e3,e4,e5,_⟩:=BB.out.b
   obtain ⟨m0,m1,m2,m3,m4,m5,mz⟩:=LP.out.bq.b
   have HS7:=hid (show Below y20.heap.size y20 (y20.alloc (.cells #[.string t.op,.string t.name,.int .i64 (t.kind:Nat),.int .i64 t.n,.int .i64 (t.pl:Nat),.slice sa sm sc,.string r2.1.op,.string r2.1.name,.int .i64 (r2.1.kind:Nat),.int .i64 r2.1.n,.int .i64 (r2.1.pl:Nat),.slice sa20 sm20 sc20] 31)) from (Below.refl _ _).alloc (Nat.le_refl _) _)
   have C0:=hid (show NC (y20.alloc (.cells #[.string t.op,.string t.name,.int .i64 (t.kind:Nat),.int .i64 t.n,.int .i64 (t.pl:Nat),.slice sa sm sc,.string r2.1.op,.string r2.1.name,.int .i64 (r2.1.kind:Nat),.int .i64 r2.1.n,.int .i64 (r2.1.pl:Nat),.slice sa20 sm20 sc20] 31)) y20.heap.size 0 t (.slice sa sm sc) from ⟨by simp,by simp,by simp,by simp,by simp,by simp⟩)
   have C6:=hid (show NC (y20.alloc (.cells #[.string t.op,.string t.name,.int .i64 (t.kind:Nat),.int .i64 t.n,.int .i64 (t.pl:Nat),.slice sa sm sc,.string r2.1.op,.string r2.1.name,.int .i64 (r2.1.kind:Nat),.int .i64 r2.1.n,.int .i64 (r2.1.pl:Nat),.slice sa20 sm20 sc20] 31)) y20.heap.size 6 r2.1 (.slice sa20 sm20 sc20) from ⟨by simp,by simp,by simp,by simp,by simp,by simp⟩)
   have QL2:=hid LP.out.bq.b.lt
   have nq:n0≤q:=LP.out.bq.l
   have NN7:=hid (nd_two2 (c:=2) (S:=fun g=>n0≤g∧g≠q) ⟨by have:=QL2.out;omega,by have:=QL2.out;omega⟩ C0.out C6.out (LP.out.bq.d.keep fun g s l=>⟨s,HS7.out.block g l⟩) (BB.out.d.keep fun g s l=>⟨⟨by omega,by omega⟩,HS7.out.block g l⟩))
   replace LP:=hid (LP.out.next HS7.out)
   clear HS7 C0 C6
   obtain ⟨k0,k1,k2,k3,k4,k5,kz⟩:=LP.out.bq.b
   replace LP:=hid (show Lp w (((((((y20.alloc (.cells #[.string t.op,.string t.name,.int .i64 (t.kind:Nat),.int .i64 t.n,.int .i64 (t.pl:Nat),.slice sa sm sc,.string r2.1.op,.string r2.1.name,.int .i64 (r2.1.kind:Nat),.int .i64 r2.1.n,.int .i64 (r2.1.pl:Nat),.slice sa20 sm20 sc20] 31)).setCell ⟨q,0,none⟩ (.string ⟨#[111,114]⟩)).setCell ⟨q,1,none⟩ (.string ⟨#[]⟩)).setCell ⟨q,2,none⟩ (.int .i64 0)).setCell ⟨q,3,none⟩ (.int .i64 0)).setCell ⟨q,4,none⟩ (.int .i64 (aw z.l:Nat))).setCell ⟨q,5,none⟩ (.slice (some ⟨y20.heap.size,0,none⟩) 2 2)) p b c ws d n0 q bo [⟨#[111,114]⟩] (two ⟨#[111,114]⟩ (aw z.l) t r2.1) (.slice (some ⟨y20.heap.size,0,none⟩) 2 2) r2.2 from LP.out.up (two ⟨#[111,114]⟩ (aw z.l) t r2.1) (.slice (some ⟨y20.heap.size,0,none⟩) 2 2) NN7.out (by omega))
   go_upto_region 16 with fail
   generalize World.setCell _ ⟨q,5,none⟩ _=y21 at *
   generalize y20.heap.size=bz at *
   clear m0 m1 m2 m3 m4 m5 mz k0 k1 k2 k3 k4 k5 kz e0 e1 e2 e3 e4 e5 BB NN7
   have RZ:=hid (show loopX B 0 (f - 1) (two ⟨#[111,114]⟩ (aw z.l) t r2.1) r2.2=R from by rw [← RI.out.1,loop_on OT.out (by decide) (by have:=ZL.out.1;have:=RI.out.2;omega),R2.out,TW.out])
   have LN:=hid (show r2.2.l.length<z.l.length from by have:=MH.out z.nx;rw [R2.out] at this;have:=nx_len ZL.out.1;omega)
   have FL:=hid RI.out.2
   clear RI OA OT
   go_wp2_with fail
   go_roundg (r2.2.l.length)
   case measure=>exact LN.out
   case rel=>exact ⟨f - 1,_,_,_,_,r2.2,rfl,LP,⟨RZ.out,by have:=LN.out;have:=FL.out;omega⟩⟩
  | false =>
   have Y0:=hid y0
   clear y0
   rw [rounds_succ]
   have o0:=LP.out.os 0 _ rfl
   have TK:=hid (rtake_any LP.out.hs ⟨#[111,114]⟩)
   rw [tk_no Y0.out,Y0.out] at TK
   go_wp2_with fail
   go_at_call 41
   with_reducible refine Calls.mono TK.out ?_
   rintro e w10 ⟨rfl,h10,g10⟩
   replace LP:=hid (LP.out.gr h10 g10)
   have p0:=LP.out.os 0 _ rfl
   clear h10 g10 TK o0
   go_wp2_with fail
   rw [rounds_succ]
   go_upto_region 12 with fail
   have RZ:=hid (show R=(t,z) from by rw [← RI.out.1];exact loopX_no (by rw [OA.out];simp [rowOps,Y0.out]))
   clear RI OA
   have RZ':=RZ.out
   subst RZ'
   obtain ⟨u0,u1,u2,u3,u4,u5,uz⟩:=LP.out.hb
   obtain ⟨m0,m1,m2,m3,m4,m5,mz⟩:=(show B6 _ q (.string t.op) (.string t.name) (.int .i64 (t.kind:Nat)) (.int .i64 t.n) (.int .i64 (t.pl:Nat)) (.slice sa sm sc) from LP.out.bq.b)
   have nq:n0≤q:=LP.out.bq.l
   have BF:=hid (LP.out.hb.sets (.string t.op) (.string t.name) (.int .i64 (t.kind:Nat)) (.int .i64 t.n) (.int .i64 (t.pl:Nat)) (.slice sa sm sc))
   have SF:=hid (LP.out.hs.put6 (q:=w.heap.size) (by omega) (by omega) (.string t.op) (.string t.name) (.int .i64 (t.kind:Nat)) (.int .i64 t.n) (.int .i64 (t.pl:Nat)) (.slice sa sm sc))
   have GF:=hid (LP.out.hg.put6 (q:=w.heap.size) (by omega) (.string t.op) (.string t.name) (.int .i64 (t.kind:Nat)) (.int .i64 t.n) (.int .i64 (t.pl:Nat)) (.slice sa sm sc))
   have NF:=hid ((LP.out.bq.d.keep (S':=fun g=>n0≤g) fun g s l=>⟨s.1,rfl⟩).put6x (q:=w.heap.size) (m:=w.heap.size) wn (by omega) (.string t.op) (.string t.name) (.int .i64 (t.kind:Nat)) (.int .i64 t.n) (.int .i64 (t.pl:Nat)) (.slice sa sm sc))
   go_wp2_with fail
   generalize World.setCell _ ⟨w.heap.size,5,none⟩ _=wf at *
   obtain ⟨q0,q1,q2,q3,q4,q5,_⟩:=BF.out
   exact bodyPost_ret (v:=.agg #[.string t.op,.string t.name,.int .i64 (t.kind:Nat),.int .i64 t.n,.int .i64 (t.pl:Nat),.slice sa sm sc]) (by simp [results,Tryd.results71,go_sem,q0,q1,q2,q3,q4,q5]) rfl ⟨GF.out,SF.out,_,rfl,_,rfl,NF.out⟩
set_option maxRecDepth 100000 in
set_option maxHeartbeats 4000000 in
theorem rrow_1 {w:World} {p b c:Nat} {ws:List Wo} {d:Nat} {s:Sp} (h:Sw w p b c ws d s) (B:Ax) (hB:∀ w s,Sw w p b c ws d s→Calls Tryd.prog 71 #[.pointer (some ⟨p,0,none⟩),.int .i64 2] w fun e w'=>Rn w w' p b c ws d e (B s)) (hM:∀ s,(B s).2.l.length≤s.l.length) (R:Tr × Sp) (hR:loopX B 1 (B s).2.l.length (B s).1 (B s).2=R) :
  Calls Tryd.prog 71 #[.pointer (some ⟨p,0,none⟩),.int .i64 1] w fun e w'=>Rn w w' p b c ws d e R:=by
 have pl0:=h.pl
 have bl0:=h.bl
 have HB:=hid (B6.new w 31 (.string ⟨#[]⟩) (.string ⟨#[]⟩) (.int .i64 0) (.int .i64 0) (.int .i64 0) (.slice none 0 0))
 have HS0:Hid (Below w.heap.size w (w.alloc (.cells #[.string ⟨#[]⟩,.string ⟨#[]⟩,.int .i64 0,.int .i64 0,.int .i64 0,.slice none 0 0] 31))):=(Below.refl _ _).alloc (Nat.le_refl _) _
 have HS:=hid (h.next HS0.out)
 have HG:=hid ((Gr.refl w p).below HS0.out)
 have WS:=hid (show w.heap.size<(w.alloc (.cells #[.string ⟨#[]⟩,.string ⟨#[]⟩,.int .i64 0,.int .i64 0,.int .i64 0,.slice none 0 0] 31)).heap.size from by simp)
 have f0:=fd0
 have f1:=fd1
 have f3:=fd3
 have BH:=hid hB
 have MH:=hid hM
 obtain ⟨r,hr⟩:∃ r,B s=r:=⟨_,rfl⟩
 rw [hr] at hR
 have RH:=hid hR
 have HRR:=hid hr
 clear h hB hM hR hr
 go_enter Tryd.func71,Tryd.ntmps71
 go_upto_region 1 with fail
 generalize World.alloc w _=w1 at *
 obtain ⟨n0,hn0⟩:∃ n,n=w1.heap.size:=⟨_,rfl⟩
 have wn:w.heap.size<n0:=by rw [hn0];exact WS.out
 have pn:p<n0:=by omega
 have bn:b<n0:=by omega
 replace WS:=hid (Nat.le_of_eq hn0)
 clear hn0 HS0
 go_upto_region 4 with fail
 have AL:=hid (show Below w1.heap.size w1 ((((((w1.alloc (.cells #[.string ⟨#[111,114]⟩] 9)).alloc (.cells #[.string ⟨#[97,110,100]⟩] 9)).alloc (.cells #[.string ⟨#[60]⟩,.string ⟨#[60,61]⟩,.string ⟨#[62]⟩,.string ⟨#[62,61]⟩,.string ⟨#[61,61]⟩,.string ⟨#[33,61]⟩] 9)).alloc (.cells #[.string ⟨#[43]⟩,.string ⟨#[45]⟩] 9)).alloc (.cells #[.string ⟨#[42]⟩,.string ⟨#[47]⟩] 9)).alloc (.cells #[.slice (some ⟨w1.heap.size,0,none⟩) 1 1,.slice (some ⟨w1.heap.size+1,0,none⟩) 1 1,.slice (some ⟨w1.heap.size+1+1,0,none⟩) 6 6,.slice (some ⟨w1.heap.size+1+1+1,0,none⟩) 2 2,.slice (some ⟨w1.heap.size+1+1+1+1,0,none⟩) 2 2] 23)) from ((((((Below.refl _ _).alloc (by simp) _).alloc (by simp) _).alloc (by simp;omega) _).alloc (by simp;omega) _).alloc (by simp;omega) _).alloc (by simp;omega) _)
 have OS:=hid (show Os ((((((w1.alloc (.cells #[.string ⟨#[111,114]⟩] 9)).alloc (.cells #[.string ⟨#[97,110,100]⟩] 9)).alloc (.cells #[.string ⟨#[60]⟩,.string ⟨#[60,61]⟩,.string ⟨#[62]⟩,.string ⟨#[62,61]⟩,.string ⟨#[61,61]⟩,.string ⟨#[33,61]⟩] 9)).alloc (.cells #[.string ⟨#[43]⟩,.string ⟨#[45]⟩] 9)).alloc (.cells #[.string ⟨#[42]⟩,.string ⟨#[47]⟩] 9)).alloc (.cells #[.slice (some ⟨w1.heap.size,0,none⟩) 1 1,.slice (some ⟨w1.heap.size+1,0,none⟩) 1 1,.slice (some ⟨w1.heap.size+1+1,0,none⟩) 6 6,.slice (some ⟨w1.heap.size+1+1+1,0,none⟩) 2 2,.slice (some ⟨w1.heap.size+1+1+1+1,0,none⟩) 2 2] 23)) (w1.heap.size+1) [⟨#[97,110,100]⟩] from (((((show Os ((w1.alloc (.cells #[.string ⟨#[111,114]⟩] 9)).alloc (.cells #[.string ⟨#[97,110,100]⟩] 9)) (w1.heap.size+1) [⟨#[97,110,100]⟩] from by have:=os_new (w1.alloc (.cells #[.string ⟨#[111,114]⟩] 9)) [⟨#[97,110,100]⟩] 9;simpa only [World.size_alloc,List.map_cons,List.map_nil] using this).al (by decide) _).al (by decide) _).al (by decide) _).al (by decide) _))
 have go:n0≤w1.heap.size+1:=by have:=WS.out;omega
 replace HS:=hid (HS.out.next AL.out)
 replace HG:=hid (HG.out.below AL.out)
 replace HB:=hid (HB.out.next AL.out)
 replace WS:=hid (Nat.le_trans WS.out AL.out.size)
 clear AL
 generalize World.alloc (World.alloc (World.alloc (World.alloc (World.alloc (World.alloc w1 _) _) _) _) _) _=w2 at *
 generalize w1.heap.size+1=bo at *
 have EC:=hid (BH.out _ _ HS.out)
 rw [HRR.out] at EC
 go_wp2_with (go_at_call 71;with_reducible refine Calls.mono EC.out ?_;rintro e w4 h4;obtain ⟨g4,s4,sa4,sm4,sc4,rfl,nv4⟩:=h4.parts;have NV4:=hid nv4;have WO4:=WS;have OS4:=hid (OS.out.keep (g4.block bo (OS.out.lt (by decide)) (fun e=>by injection e with e;omega)));replace HG:=hid (HG.out.trans g4);replace HB:=hid (HB.out.gr g4 (by omega));replace WS:=hid (Nat.le_trans WS.out g4.size);replace HS:=hid s4;clear h4 g4 s4 nv4 EC OS)
 have AL:=hid (show Below w4.heap.size w4 (w4.alloc (.cells #[.string r.1.op,.string r.1.name,.int .i64 (r.1.kind:Nat),.int .i64 r.1.n,.int .i64 (r.1.pl:Nat),.slice sa4 sm4 sc4] 31)) from (Below.refl _ _).alloc (Nat.le_refl _) _)
 have bq:bo<w4.heap.size:=OS4.out.lt (by decide)
 have qn:n0≤w4.heap.size:=WS.out
 have LP:=hid (show Lp w (w4.alloc (.cells #[.string r.1.op,.string r.1.name,.int .i64 (r.1.kind:Nat),.int .i64 r.1.n,.int .i64 (r.1.pl:Nat),.slice sa4 sm4 sc4] 31)) p b c ws d n0 w4.heap.size bo [⟨#[97,110,100]⟩] r.1 (.slice sa4 sm4 sc4) r.2 from ⟨HS.out.next AL.out,HG.out.below AL.out,HB.out.next AL.out,Nat.le_trans WS.out AL.out.size,Bq.new NV4.out WO4.out WS.out 31,OS4.out.al (by decide) _,by decide,by omega,by omega,wn,go⟩)
 clear AL HS HG HB WS WO4 NV4 OS4 HRR
 generalize World.alloc w4 _=y4 at *
 generalize w4.heap.size=q at *
 go_loopg [7] (r.2.l.length) (fun g ov wr=>∃ (f:Nat) (t:Tr) (sa:Option Addr) (sm sc:Nat) (z:Sp),g=z.l.length∧Hid (Lp w wr p b c ws d n0 q bo [⟨#[97,110,100]⟩] t (.slice sa sm sc) z)∧Hid (loopX B 1 f t z=R∧z.l.length≤f))
 case atStart=>exact ⟨_,r.1,_,_,_,r.2,rfl,LP,⟨RH.out,Nat.le_refl _⟩⟩
 case round =>
  clear LP RH
  obtain ⟨f,t,sa,sm,sc,z,rfl,LP,RI⟩:=hrel
  have ZL:=hid (LP.out.hs.len)
  have WC:=hid (rw_any LP.out.hs)
  have OA:=hid (opAt_any 1 (by decide) z)
  go_wp2_with (go_at_call 40;with_reducible refine Calls.mono WC.out ?_;rintro e w5 ⟨rfl,b5⟩;replace LP:=hid (LP.out.next b5);clear b5 WC)
  refine wp_loop_rounds 2 ?_
  cases y0:z.is ⟨#[97,110,100]⟩ with
  | true =>
   have Y0:=hid y0
   clear y0
   rw [rounds_succ]
   have o0:=LP.out.os 0 _ rfl
   have TK:=hid (rtake_any LP.out.hs ⟨#[97,110,100]⟩)
   rw [tk_yes Y0.out,Y0.out] at TK
   go_wp2_with fail
   go_at_call 41
   with_reducible refine Calls.mono TK.out ?_
   rintro e w10 ⟨rfl,h10,g10⟩
   replace LP:=hid (LP.out.gr h10 g10)
   have p0:=LP.out.os 0 _ rfl
   clear h10 g10 TK o0
   go_wp2_with fail
   rw [rounds_succ]
   go_upto_region 12 with fail
   have TW:=hid (is_tw Y0.out)
   have OT:=hid (show opAt 1 z=true from by rw [OA.out];simp [rowOps,Y0.out])
   obtain ⟨r2,hr2⟩:∃ r2,B z.nx=r2:=⟨_,rfl⟩
   have EC:=hid (BH.out _ _ LP.out.hs)
   rw [hr2] at EC
   have R2:=hid hr2
   clear hr2
   go_upto_region 15 with (go_at_call 71;with_reducible refine Calls.mono EC.out ?_;rintro e w20 h20;obtain ⟨g20,s20,sa20,sm20,sc20,rfl,nv20⟩:=h20.parts;have QL:=hid LP.out.bq.b.lt;have NV20:=hid nv20;replace LP:=hid (LP.out.gr s20 g20);have GS:=hid g20.size;clear h20 g20 s20 nv20 EC)
   have BB:=hid (Bx.new (m:=q+1) NV20.out QL.out (Nat.le_trans QL.out GS.out) 31)
   have AL:=hid (show Below w20.heap.size w20 (w20.alloc (.cells #[.string r2.1.op,.string r2.1.name,.int .i64 (r2.1.kind:Nat),.int .i64 r2.1.n,.int .i64 (r2.1.pl:Nat),.slice sa20 sm20 sc20] 31)) from (Below.refl _ _).alloc (Nat.le_refl _) _)
   replace LP:=hid (LP.out.next AL.out)
   have gb:q<w20.heap.size:=BB.out.l
   clear AL NV20 QL GS
   generalize World.alloc w20 _=y20 at *
   generalize w20.heap.size=bb at *
   obtain ⟨e0,e1,e2,e3,e4,e5,_⟩:=BB.out.b
   obtain ⟨m0,m1,m2,m3,m4,m5,mz⟩:=LP.out.bq.b
   have HS7:=hid (show Below y20.heap.size y20 (y20.alloc (.cells #[.string t.op,.string t.name,.int .i64 (t.kind:Nat),.int .i64 t.n,.int .i64 (t.pl:Nat),.slice sa sm sc,.string r2.1.op,.string r2.1.name,.int .i64 (r2.1.kind:Nat),.int .i64 r2.1.n,.int .i64 (r2.1.pl:Nat),.slice sa20 sm20 sc20] 31)) from (Below.refl _ _).alloc (Nat.le_refl _) _)
   have C0:=hid (show NC (y20.alloc (.cells #[.string t.op,.string t.name,.int .i64 (t.kind:Nat),.int .i64 t.n,.int .i64 (t.pl:Nat),.slice sa sm sc,.string r2.1.op,.string r2.1.name,.int .i64 (r2.1.kind:Nat),.int .i64 r2.1.n,.int .i64 (r2.1.pl:Nat),.slice sa20 sm20 sc20] 31)) y20.heap.size 0 t (.slice sa sm sc) from ⟨by simp,by simp,by simp,by simp,by simp,by simp⟩)
   have C6:=hid (show NC (y20.alloc (.cells #[.string t.op,.string t.name,.int .i64 (t.kind:Nat),.int .i64 t.n,.int .i64 (t.pl:Nat),.slice sa sm sc,.string r2.1.op,.string r2.1.name,.int .i64 (r2.1.kind:Nat),.int .i64 r2.1.n,.int .i64 (r2.1.pl:Nat),.slice sa20 sm20 sc20] 31)) y20.heap.size 6 r2.1 (.slice sa20 sm20 sc20) from ⟨by simp,by simp,by simp,by simp,by simp,by simp⟩)
   have QL2:=hid LP.out.bq.b.lt
   have nq:n0≤q:=LP.out.bq.l
   have NN7:=hid (nd_two2 (c:=2) (S:=fun g=>n0≤g∧g≠q) ⟨by have:=QL2.out;omega,by have:=QL2.out;omega⟩ C0.out C6.out (LP.out.bq.d.keep fun g s l=>⟨s,HS7.out.block g l⟩) (BB.out.d.keep fun g s l=>⟨⟨by omega,by omega⟩,HS7.out.block g l⟩))
   replace LP:=hid (LP.out.next HS7.out)
   clear HS7 C0 C6
   obtain ⟨k0,k1,k2,k3,k4,k5,kz⟩:=LP.out.bq.b
   replace LP:=hid (show Lp w (((((((y20.alloc (.cells #[.string t.op,.string t.name,.int .i64 (t.kind:Nat),.int .i64 t.n,.int .i64 (t.pl:Nat),.slice sa sm sc,.string r2.1.op,.string r2.1.name,.int .i64 (r2.1.kind:Nat),.int .i64 r2.1.n,.int .i64 (r2.1.pl:Nat),.slice sa20 sm20 sc20] 31)).setCell ⟨q,0,none⟩ (.string ⟨#[97,110,100]⟩)).setCell ⟨q,1,none⟩ (.string ⟨#[]⟩)).setCell ⟨q,2,none⟩ (.int .i64 0)).setCell ⟨q,3,none⟩ (.int .i64 0)).setCell ⟨q,4,none⟩ (.int .i64 (aw z.l:Nat))).setCell ⟨q,5,none⟩ (.slice (some ⟨y20.heap.size,0,none⟩) 2 2)) p b c ws d n0 q bo [⟨#[97,110,100]⟩] (two ⟨#[97,110,100]⟩ (aw z.l) t r2.1) (.slice (some ⟨y20.heap.size,0,none⟩) 2 2) r2.2 from LP.out.up (two ⟨#[97,110,100]⟩ (aw z.l) t r2.1) (.slice (some ⟨y20.heap.size,0,none⟩) 2 2) NN7.out (by omega))
   go_upto_region 16 with fail
   generalize World.setCell _ ⟨q,5,none⟩ _=y21 at *
   generalize y20.heap.size=bz at *
   clear m0 m1 m2 m3 m4 m5 mz k0 k1 k2 k3 k4 k5 kz e0 e1 e2 e3 e4 e5 BB NN7
   have RZ:=hid (show loopX B 1 (f - 1) (two ⟨#[97,110,100]⟩ (aw z.l) t r2.1) r2.2=R from by rw [← RI.out.1,loop_on OT.out (by decide) (by have:=ZL.out.1;have:=RI.out.2;omega),R2.out,TW.out])
   have LN:=hid (show r2.2.l.length<z.l.length from by have:=MH.out z.nx;rw [R2.out] at this;have:=nx_len ZL.out.1;omega)
   have FL:=hid RI.out.2
   clear RI OA OT
   go_wp2_with fail
   go_roundg (r2.2.l.length)
   case measure=>exact LN.out
   case rel=>exact ⟨f - 1,_,_,_,_,r2.2,rfl,LP,⟨RZ.out,by have:=LN.out;have:=FL.out;omega⟩⟩
  | false =>
   have Y0:=hid y0
   clear y0
   rw [rounds_succ]
   have o0:=LP.out.os 0 _ rfl
   have TK:=hid (rtake_any LP.out.hs ⟨#[97,110,100]⟩)
   rw [tk_no Y0.out,Y0.out] at TK
   go_wp2_with fail
   go_at_call 41
   with_reducible refine Calls.mono TK.out ?_
   rintro e w10 ⟨rfl,h10,g10⟩
   replace LP:=hid (LP.out.gr h10 g10)
   have p0:=LP.out.os 0 _ rfl
   clear h10 g10 TK o0
   go_wp2_with fail
   rw [rounds_succ]
   go_upto_region 12 with fail
   have RZ:=hid (show R=(t,z) from by rw [← RI.out.1];exact loopX_no (by rw [OA.out];simp [rowOps,Y0.out]))
   clear RI OA
   have RZ':=RZ.out
   subst RZ'
   obtain ⟨u0,u1,u2,u3,u4,u5,uz⟩:=LP.out.hb
   obtain ⟨m0,m1,m2,m3,m4,m5,mz⟩:=(show B6 _ q (.string t.op) (.string t.name) (.int .i64 (t.kind:Nat)) (.int .i64 t.n) (.int .i64 (t.pl:Nat)) (.slice sa sm sc) from LP.out.bq.b)
   have nq:n0≤q:=LP.out.bq.l
   have BF:=hid (LP.out.hb.sets (.string t.op) (.string t.name) (.int .i64 (t.kind:Nat)) (.int .i64 t.n) (.int .i64 (t.pl:Nat)) (.slice sa sm sc))
   have SF:=hid (LP.out.hs.put6 (q:=w.heap.size) (by omega) (by omega) (.string t.op) (.string t.name) (.int .i64 (t.kind:Nat)) (.int .i64 t.n) (.int .i64 (t.pl:Nat)) (.slice sa sm sc))
   have GF:=hid (LP.out.hg.put6 (q:=w.heap.size) (by omega) (.string t.op) (.string t.name) (.int .i64 (t.kind:Nat)) (.int .i64 t.n) (.int .i64 (t.pl:Nat)) (.slice sa sm sc))
   have NF:=hid ((LP.out.bq.d.keep (S':=fun g=>n0≤g) fun g s l=>⟨s.1,rfl⟩).put6x (q:=w.heap.size) (m:=w.heap.size) wn (by omega) (.string t.op) (.string t.name) (.int .i64 (t.kind:Nat)) (.int .i64 t.n) (.int .i64 (t.pl:Nat)) (.slice sa sm sc))
   go_wp2_with fail
   generalize World.setCell _ ⟨w.heap.size,5,none⟩ _=wf at *
   obtain ⟨q0,q1,q2,q3,q4,q5,_⟩:=BF.out
   exact bodyPost_ret (v:=.agg #[.string t.op,.string t.name,.int .i64 (t.kind:Nat),.int .i64 t.n,.int .i64 (t.pl:Nat),.slice sa sm sc]) (by simp [results,Tryd.results71,go_sem,q0,q1,q2,q3,q4,q5]) rfl ⟨GF.out,SF.out,_,rfl,_,rfl,NF.out⟩
set_option maxRecDepth 100000 in
set_option maxHeartbeats 4000000 in
theorem rrow_3 {w:World} {p b c:Nat} {ws:List Wo} {d:Nat} {s:Sp} (h:Sw w p b c ws d s) (B:Ax) (hB:∀ w s,Sw w p b c ws d s→Calls Tryd.prog 71 #[.pointer (some ⟨p,0,none⟩),.int .i64 4] w fun e w'=>Rn w w' p b c ws d e (B s)) (hM:∀ s,(B s).2.l.length≤s.l.length) (R:Tr × Sp) (hR:loopX B 3 (B s).2.l.length (B s).1 (B s).2=R) :
  Calls Tryd.prog 71 #[.pointer (some ⟨p,0,none⟩),.int .i64 3] w fun e w'=>Rn w w' p b c ws d e R:=by
 have pl0:=h.pl
 have bl0:=h.bl
 have HB:=hid (B6.new w 31 (.string ⟨#[]⟩) (.string ⟨#[]⟩) (.int .i64 0) (.int .i64 0) (.int .i64 0) (.slice none 0 0))
 have HS0:Hid (Below w.heap.size w (w.alloc (.cells #[.string ⟨#[]⟩,.string ⟨#[]⟩,.int .i64 0,.int .i64 0,.int .i64 0,.slice none 0 0] 31))):=(Below.refl _ _).alloc (Nat.le_refl _) _
 have HS:=hid (h.next HS0.out)
 have HG:=hid ((Gr.refl w p).below HS0.out)
 have WS:=hid (show w.heap.size<(w.alloc (.cells #[.string ⟨#[]⟩,.string ⟨#[]⟩,.int .i64 0,.int .i64 0,.int .i64 0,.slice none 0 0] 31)).heap.size from by simp)
 have f0:=fd0
 have f1:=fd1
 have f3:=fd3
 have BH:=hid hB
 have MH:=hid hM
 obtain ⟨r,hr⟩:∃ r,B s=r:=⟨_,rfl⟩
 rw [hr] at hR
 have RH:=hid hR
 have HRR:=hid hr
 clear h hB hM hR hr
 go_enter Tryd.func71,Tryd.ntmps71
 go_upto_region 1 with fail
 generalize World.alloc w _=w1 at *
 obtain ⟨n0,hn0⟩:∃ n,n=w1.heap.size:=⟨_,rfl⟩
 have wn:w.heap.size<n0:=by rw [hn0];exact WS.out
 have pn:p<n0:=by omega
 have bn:b<n0:=by omega
 replace WS:=hid (Nat.le_of_eq hn0)
 clear hn0 HS0
 go_upto_region 4 with fail
 have AL:=hid (show Below w1.heap.size w1 ((((((w1.alloc (.cells #[.string ⟨#[111,114]⟩] 9)).alloc (.cells #[.string ⟨#[97,110,100]⟩] 9)).alloc (.cells #[.string ⟨#[60]⟩,.string ⟨#[60,61]⟩,.string ⟨#[62]⟩,.string ⟨#[62,61]⟩,.string ⟨#[61,61]⟩,.string ⟨#[33,61]⟩] 9)).alloc (.cells #[.string ⟨#[43]⟩,.string ⟨#[45]⟩] 9)).alloc (.cells #[.string ⟨#[42]⟩,.string ⟨#[47]⟩] 9)).alloc (.cells #[.slice (some ⟨w1.heap.size,0,none⟩) 1 1,.slice (some ⟨w1.heap.size+1,0,none⟩) 1 1,.slice (some ⟨w1.heap.size+1+1,0,none⟩) 6 6,.slice (some ⟨w1.heap.size+1+1+1,0,none⟩) 2 2,.slice (some ⟨w1.heap.size+1+1+1+1,0,none⟩) 2 2] 23)) from ((((((Below.refl _ _).alloc (by simp) _).alloc (by simp) _).alloc (by simp;omega) _).alloc (by simp;omega) _).alloc (by simp;omega) _).alloc (by simp;omega) _)
 have OS:=hid (show Os ((((((w1.alloc (.cells #[.string ⟨#[111,114]⟩] 9)).alloc (.cells #[.string ⟨#[97,110,100]⟩] 9)).alloc (.cells #[.string ⟨#[60]⟩,.string ⟨#[60,61]⟩,.string ⟨#[62]⟩,.string ⟨#[62,61]⟩,.string ⟨#[61,61]⟩,.string ⟨#[33,61]⟩] 9)).alloc (.cells #[.string ⟨#[43]⟩,.string ⟨#[45]⟩] 9)).alloc (.cells #[.string ⟨#[42]⟩,.string ⟨#[47]⟩] 9)).alloc (.cells #[.slice (some ⟨w1.heap.size,0,none⟩) 1 1,.slice (some ⟨w1.heap.size+1,0,none⟩) 1 1,.slice (some ⟨w1.heap.size+1+1,0,none⟩) 6 6,.slice (some ⟨w1.heap.size+1+1+1,0,none⟩) 2 2,.slice (some ⟨w1.heap.size+1+1+1+1,0,none⟩) 2 2] 23)) (w1.heap.size+1+1+1) [⟨#[43]⟩,⟨#[45]⟩] from (((show Os ((((w1.alloc (.cells #[.string ⟨#[111,114]⟩] 9)).alloc (.cells #[.string ⟨#[97,110,100]⟩] 9)).alloc (.cells #[.string ⟨#[60]⟩,.string ⟨#[60,61]⟩,.string ⟨#[62]⟩,.string ⟨#[62,61]⟩,.string ⟨#[61,61]⟩,.string ⟨#[33,61]⟩] 9)).alloc (.cells #[.string ⟨#[43]⟩,.string ⟨#[45]⟩] 9)) (w1.heap.size+1+1+1) [⟨#[43]⟩,⟨#[45]⟩] from by have:=os_new (((w1.alloc (.cells #[.string ⟨#[111,114]⟩] 9)).alloc (.cells #[.string ⟨#[97,110,100]⟩] 9)).alloc (.cells #[.string ⟨#[60]⟩,.string ⟨#[60,61]⟩,.string ⟨#[62]⟩,.string ⟨#[62,61]⟩,.string ⟨#[61,61]⟩,.string ⟨#[33,61]⟩] 9)) [⟨#[43]⟩,⟨#[45]⟩] 9;simpa only [World.size_alloc,List.map_cons,List.map_nil] using this).al (by decide) _).al (by decide) _))
 have go:n0≤w1.heap.size+1+1+1:=by have:=WS.out;omega
 replace HS:=hid (HS.out.next AL.out)
 replace HG:=hid (HG.out.below AL.out)
 replace HB:=hid (HB.out.next AL.out)
 replace WS:=hid (Nat.le_trans WS.out AL.out.size)
 clear AL
 generalize World.alloc (World.alloc (World.alloc (World.alloc (World.alloc (World.alloc w1 _) _) _) _) _) _=w2 at *
 generalize w1.heap.size+1+1+1=bo at *
 have EC:=hid (BH.out _ _ HS.out)
 rw [HRR.out] at EC
 go_wp2_with (go_at_call 71;with_reducible refine Calls.mono EC.out ?_;rintro e w4 h4;obtain ⟨g4,s4,sa4,sm4,sc4,rfl,nv4⟩:=h4.parts;have NV4:=hid nv4;have WO4:=WS;have OS4:=hid (OS.out.keep (g4.block bo (OS.out.lt (by decide)) (fun e=>by injection e with e;omega)));replace HG:=hid (HG.out.trans g4);replace HB:=hid (HB.out.gr g4 (by omega));replace WS:=hid (Nat.le_trans WS.out g4.size);replace HS:=hid s4;clear h4 g4 s4 nv4 EC OS)
 have AL:=hid (show Below w4.heap.size w4 (w4.alloc (.cells #[.string r.1.op,.string r.1.name,.int .i64 (r.1.kind:Nat),.int .i64 r.1.n,.int .i64 (r.1.pl:Nat),.slice sa4 sm4 sc4] 31)) from (Below.refl _ _).alloc (Nat.le_refl _) _)
 have bq:bo<w4.heap.size:=OS4.out.lt (by decide)
 have qn:n0≤w4.heap.size:=WS.out
 have LP:=hid (show Lp w (w4.alloc (.cells #[.string r.1.op,.string r.1.name,.int .i64 (r.1.kind:Nat),.int .i64 r.1.n,.int .i64 (r.1.pl:Nat),.slice sa4 sm4 sc4] 31)) p b c ws d n0 w4.heap.size bo [⟨#[43]⟩,⟨#[45]⟩] r.1 (.slice sa4 sm4 sc4) r.2 from ⟨HS.out.next AL.out,HG.out.below AL.out,HB.out.next AL.out,Nat.le_trans WS.out AL.out.size,Bq.new NV4.out WO4.out WS.out 31,OS4.out.al (by decide) _,by decide,by omega,by omega,wn,go⟩)
 clear AL HS HG HB WS WO4 NV4 OS4 HRR
 generalize World.alloc w4 _=y4 at *
 generalize w4.heap.size=q at *
 go_loopg [7] (r.2.l.length) (fun g ov wr=>∃ (f:Nat) (t:Tr) (sa:Option Addr) (sm sc:Nat) (z:Sp),g=z.l.length∧Hid (Lp w wr p b c ws d n0 q bo [⟨#[43]⟩,⟨#[45]⟩] t (.slice sa sm sc) z)∧Hid (loopX B 3 f t z=R∧z.l.length≤f))
 case atStart=>exact ⟨_,r.1,_,_,_,r.2,rfl,LP,⟨RH.out,Nat.le_refl _⟩⟩
 case round =>
  clear LP RH
  obtain ⟨f,t,sa,sm,sc,z,rfl,LP,RI⟩:=hrel
  have ZL:=hid (LP.out.hs.len)
  have WC:=hid (rw_any LP.out.hs)
  have OA:=hid (opAt_any 3 (by decide) z)
  go_wp2_with (go_at_call 40;with_reducible refine Calls.mono WC.out ?_;rintro e w5 ⟨rfl,b5⟩;replace LP:=hid (LP.out.next b5);clear b5 WC)
  refine wp_loop_rounds 3 ?_
  cases y0:z.is ⟨#[43]⟩ with
  | true =>
   have Y0:=hid y0
   clear y0
   rw [rounds_succ]
   have o0:=LP.out.os 0 _ rfl
   have TK:=hid (rtake_any LP.out.hs ⟨#[43]⟩)
   rw [tk_yes Y0.out,Y0.out] at TK
   go_wp2_with fail
   go_at_call 41
   with_reducible refine Calls.mono TK.out ?_
   rintro e w10 ⟨rfl,h10,g10⟩
   replace LP:=hid (LP.out.gr h10 g10)
   have p0:=LP.out.os 0 _ rfl
   clear h10 g10 TK o0
   go_wp2_with fail
   rw [rounds_succ]
   go_upto_region 12 with fail
   have TW:=hid (is_tw Y0.out)
   have OT:=hid (show opAt 3 z=true from by rw [OA.out];simp [rowOps,Y0.out])
   obtain ⟨r2,hr2⟩:∃ r2,B z.nx=r2:=⟨_,rfl⟩
   have EC:=hid (BH.out _ _ LP.out.hs)
   rw [hr2] at EC
   have R2:=hid hr2
   clear hr2
   go_upto_region 15 with (go_at_call 71;with_reducible refine Calls.mono EC.out ?_;rintro e w20 h20;obtain ⟨g20,s20,sa20,sm20,sc20,rfl,nv20⟩:=h20.parts;have QL:=hid LP.out.bq.b.lt;have NV20:=hid nv20;replace LP:=hid (LP.out.gr s20 g20);have GS:=hid g20.size;clear h20 g20 s20 nv20 EC)
   have BB:=hid (Bx.new (m:=q+1) NV20.out QL.out (Nat.le_trans QL.out GS.out) 31)
   have AL:=hid (show Below w20.heap.size w20 (w20.alloc (.cells #[.string r2.1.op,.string r2.1.name,.int .i64 (r2.1.kind:Nat),.int .i64 r2.1.n,.int .i64 (r2.1.pl:Nat),.slice sa20 sm20 sc20] 31)) from (Below.refl _ _).alloc (Nat.le_refl _) _)
   replace LP:=hid (LP.out.next AL.out)
   have gb:q<w20.heap.size:=BB.out.l
   clear AL NV20 QL GS
   generalize World.alloc w20 _=y20 at *
   generalize w20.heap.size=bb at *
   obtain ⟨e0,e1,e2,e3,e4,e5,_⟩:=BB.out.b
   obtain ⟨m0,m1,m2,m3,m4,m5,mz⟩:=LP.out.bq.b
   have HS7:=hid (show Below y20.heap.size y20 (y20.alloc (.cells #[.string t.op,.string t.name,.int .i64 (t.kind:Nat),.int .i64 t.n,.int .i64 (t.pl:Nat),.slice sa sm sc,.string r2.1.op,.string r2.1.name,.int .i64 (r2.1.kind:Nat),.int .i64 r2.1.n,.int .i64 (r2.1.pl:Nat),.slice sa20 sm20 sc20] 31)) from (Below.refl _ _).alloc (Nat.le_refl _) _)
   have C0:=hid (show NC (y20.alloc (.cells #[.string t.op,.string t.name,.int .i64 (t.kind:Nat),.int .i64 t.n,.int .i64 (t.pl:Nat),.slice sa sm sc,.string r2.1.op,.string r2.1.name,.int .i64 (r2.1.kind:Nat),.int .i64 r2.1.n,.int .i64 (r2.1.pl:Nat),.slice sa20 sm20 sc20] 31)) y20.heap.size 0 t (.slice sa sm sc) from ⟨by simp,by simp,by simp,by simp,by simp,by simp⟩)
   have C6:=hid (show NC (y20.alloc (.cells #[.string t.op,.string t.name,.int .i64 (t.kind:Nat),.int .i64 t.n,.int .i64 (t.pl:Nat),.slice sa sm sc,.string r2.1.op,.string r2.1.name,.int .i64 (r2.1.kind:Nat),.int .i64 r2.1.n,.int .i64 (r2.1.pl:Nat),.slice sa20 sm20 sc20] 31)) y20.heap.size 6 r2.1 (.slice sa20 sm20 sc20) from ⟨by simp,by simp,by simp,by simp,by simp,by simp⟩)
   have QL2:=hid LP.out.bq.b.lt
   have nq:n0≤q:=LP.out.bq.l
   have NN7:=hid (nd_two2 (c:=2) (S:=fun g=>n0≤g∧g≠q) ⟨by have:=QL2.out;omega,by have:=QL2.out;omega⟩ C0.out C6.out (LP.out.bq.d.keep fun g s l=>⟨s,HS7.out.block g l⟩) (BB.out.d.keep fun g s l=>⟨⟨by omega,by omega⟩,HS7.out.block g l⟩))
   replace LP:=hid (LP.out.next HS7.out)
   clear HS7 C0 C6
   obtain ⟨k0,k1,k2,k3,k4,k5,kz⟩:=LP.out.bq.b
   replace LP:=hid (show Lp w (((((((y20.alloc (.cells #[.string t.op,.string t.name,.int .i64 (t.kind:Nat),.int .i64 t.n,.int .i64 (t.pl:Nat),.slice sa sm sc,.string r2.1.op,.string r2.1.name,.int .i64 (r2.1.kind:Nat),.int .i64 r2.1.n,.int .i64 (r2.1.pl:Nat),.slice sa20 sm20 sc20] 31)).setCell ⟨q,0,none⟩ (.string ⟨#[43]⟩)).setCell ⟨q,1,none⟩ (.string ⟨#[]⟩)).setCell ⟨q,2,none⟩ (.int .i64 0)).setCell ⟨q,3,none⟩ (.int .i64 0)).setCell ⟨q,4,none⟩ (.int .i64 (aw z.l:Nat))).setCell ⟨q,5,none⟩ (.slice (some ⟨y20.heap.size,0,none⟩) 2 2)) p b c ws d n0 q bo [⟨#[43]⟩,⟨#[45]⟩] (two ⟨#[43]⟩ (aw z.l) t r2.1) (.slice (some ⟨y20.heap.size,0,none⟩) 2 2) r2.2 from LP.out.up (two ⟨#[43]⟩ (aw z.l) t r2.1) (.slice (some ⟨y20.heap.size,0,none⟩) 2 2) NN7.out (by omega))
   go_upto_region 16 with fail
   generalize World.setCell _ ⟨q,5,none⟩ _=y21 at *
   generalize y20.heap.size=bz at *
   clear m0 m1 m2 m3 m4 m5 mz k0 k1 k2 k3 k4 k5 kz e0 e1 e2 e3 e4 e5 BB NN7
   have RZ:=hid (show loopX B 3 (f - 1) (two ⟨#[43]⟩ (aw z.l) t r2.1) r2.2=R from by rw [← RI.out.1,loop_on OT.out (by decide) (by have:=ZL.out.1;have:=RI.out.2;omega),R2.out,TW.out])
   have LN:=hid (show r2.2.l.length<z.l.length from by have:=MH.out z.nx;rw [R2.out] at this;have:=nx_len ZL.out.1;omega)
   have FL:=hid RI.out.2
   clear RI OA OT
   go_wp2_with fail
   go_roundg (r2.2.l.length)
   case measure=>exact LN.out
   case rel=>exact ⟨f - 1,_,_,_,_,r2.2,rfl,LP,⟨RZ.out,by have:=LN.out;have:=FL.out;omega⟩⟩
  | false =>
   have Y0:=hid y0
   clear y0
   cases y1:z.is ⟨#[45]⟩ with
   | true =>
    have Y1:=hid y1
    clear y1
    rw [rounds_succ]
    have o0:=LP.out.os 0 _ rfl
    have TK:=hid (rtake_any LP.out.hs ⟨#[43]⟩)
    rw [tk_no Y0.out,Y0.out] at TK
    go_wp2_with fail
    go_at_call 41
    with_reducible refine Calls.mono TK.out ?_
    rintro e w10 ⟨rfl,h10,g10⟩
    replace LP:=hid (LP.out.gr h10 g10)
    have p0:=LP.out.os 0 _ rfl
    clear h10 g10 TK o0
    go_wp2_with fail
    rw [rounds_succ]
    have o1:=LP.out.os 1 _ rfl
    have TK:=hid (rtake_any LP.out.hs ⟨#[45]⟩)
    rw [tk_yes Y1.out,Y1.out] at TK
    go_wp2_with fail
    go_at_call 41
    with_reducible refine Calls.mono TK.out ?_
    rintro e w11 ⟨rfl,h11,g11⟩
    replace LP:=hid (LP.out.gr h11 g11)
    have p1:=LP.out.os 1 _ rfl
    clear h11 g11 TK o1
    go_wp2_with fail
    rw [rounds_succ]
    go_upto_region 12 with fail
    have TW:=hid (is_tw Y1.out)
    have OT:=hid (show opAt 3 z=true from by rw [OA.out];simp [rowOps,Y1.out])
    obtain ⟨r2,hr2⟩:∃ r2,B z.nx=r2:=⟨_,rfl⟩
    have EC:=hid (BH.out _ _ LP.out.hs)
    rw [hr2] at EC
    have R2:=hid hr2
    clear hr2
    go_upto_region 15 with (go_at_call 71;with_reducible refine Calls.mono EC.out ?_;rintro e w20 h20;obtain ⟨g20,s20,sa20,sm20,sc20,rfl,nv20⟩:=h20.parts;have QL:=hid LP.out.bq.b.lt;have NV20:=hid nv20;replace LP:=hid (LP.out.gr s20 g20);have GS:=hid g20.size;clear h20 g20 s20 nv20 EC)
    have BB:=hid (Bx.new (m:=q+1) NV20.out QL.out (Nat.le_trans QL.out GS.out) 31)
    have AL:=hid (show Below w20.heap.size w20 (w20.alloc (.cells #[.string r2.1.op,.string r2.1.name,.int .i64 (r2.1.kind:Nat),.int .i64 r2.1.n,.int .i64 (r2.1.pl:Nat),.slice sa20 sm20 sc20] 31)) from (Below.refl _ _).alloc (Nat.le_refl _) _)
    replace LP:=hid (LP.out.next AL.out)
    have gb:q<w20.heap.size:=BB.out.l
    clear AL NV20 QL GS
    generalize World.alloc w20 _=y20 at *
    generalize w20.heap.size=bb at *
    obtain ⟨e0,e1,e2,e3,e4,e5,_⟩:=BB.out.b
    obtain ⟨m0,m1,m2,m3,m4,m5,mz⟩:=LP.out.bq.b
    have HS7:=hid (show Below y20.heap.size y20 (y20.alloc (.cells #[.string t.op,.string t.name,.int .i64 (t.kind:Nat),.int .i64 t.n,.int .i64 (t.pl:Nat),.slice sa sm sc,.string r2.1.op,.string r2.1.name,.int .i64 (r2.1.kind:Nat),.int .i64 r2.1.n,.int .i64 (r2.1.pl:Nat),.slice sa20 sm20 sc20] 31)) from (Below.refl _ _).alloc (Nat.le_refl _) _)
    have C0:=hid (show NC (y20.alloc (.cells #[.string t.op,.string t.name,.int .i64 (t.kind:Nat),.int .i64 t.n,.int .i64 (t.pl:Nat),.slice sa sm sc,.string r2.1.op,.string r2.1.name,.int .i64 (r2.1.kind:Nat),.int .i64 r2.1.n,.int .i64 (r2.1.pl:Nat),.slice sa20 sm20 sc20] 31)) y20.heap.size 0 t (.slice sa sm sc) from ⟨by simp,by simp,by simp,by simp,by simp,by simp⟩)
    have C6:=hid (show NC (y20.alloc (.cells #[.string t.op,.string t.name,.int .i64 (t.kind:Nat),.int .i64 t.n,.int .i64 (t.pl:Nat),.slice sa sm sc,.string r2.1.op,.string r2.1.name,.int .i64 (r2.1.kind:Nat),.int .i64 r2.1.n,.int .i64 (r2.1.pl:Nat),.slice sa20 sm20 sc20] 31)) y20.heap.size 6 r2.1 (.slice sa20 sm20 sc20) from ⟨by simp,by simp,by simp,by simp,by simp,by simp⟩)
    have QL2:=hid LP.out.bq.b.lt
    have nq:n0≤q:=LP.out.bq.l
    have NN7:=hid (nd_two2 (c:=2) (S:=fun g=>n0≤g∧g≠q) ⟨by have:=QL2.out;omega,by have:=QL2.out;omega⟩ C0.out C6.out (LP.out.bq.d.keep fun g s l=>⟨s,HS7.out.block g l⟩) (BB.out.d.keep fun g s l=>⟨⟨by omega,by omega⟩,HS7.out.block g l⟩))
    replace LP:=hid (LP.out.next HS7.out)
    clear HS7 C0 C6
    obtain ⟨k0,k1,k2,k3,k4,k5,kz⟩:=LP.out.bq.b
    replace LP:=hid (show Lp w (((((((y20.alloc (.cells #[.string t.op,.string t.name,.int .i64 (t.kind:Nat),.int .i64 t.n,.int .i64 (t.pl:Nat),.slice sa sm sc,.string r2.1.op,.string r2.1.name,.int .i64 (r2.1.kind:Nat),.int .i64 r2.1.n,.int .i64 (r2.1.pl:Nat),.slice sa20 sm20 sc20] 31)).setCell ⟨q,0,none⟩ (.string ⟨#[45]⟩)).setCell ⟨q,1,none⟩ (.string ⟨#[]⟩)).setCell ⟨q,2,none⟩ (.int .i64 0)).setCell ⟨q,3,none⟩ (.int .i64 0)).setCell ⟨q,4,none⟩ (.int .i64 (aw z.l:Nat))).setCell ⟨q,5,none⟩ (.slice (some ⟨y20.heap.size,0,none⟩) 2 2)) p b c ws d n0 q bo [⟨#[43]⟩,⟨#[45]⟩] (two ⟨#[45]⟩ (aw z.l) t r2.1) (.slice (some ⟨y20.heap.size,0,none⟩) 2 2) r2.2 from LP.out.up (two ⟨#[45]⟩ (aw z.l) t r2.1) (.slice (some ⟨y20.heap.size,0,none⟩) 2 2) NN7.out (by omega))
    go_upto_region 16 with fail
    generalize World.setCell _ ⟨q,5,none⟩ _=y21 at *
    generalize y20.heap.size=bz at *
    clear m0 m1 m2 m3 m4 m5 mz k0 k1 k2 k3 k4 k5 kz e0 e1 e2 e3 e4 e5 BB NN7
    have RZ:=hid (show loopX B 3 (f - 1) (two ⟨#[45]⟩ (aw z.l) t r2.1) r2.2=R from by rw [← RI.out.1,loop_on OT.out (by decide) (by have:=ZL.out.1;have:=RI.out.2;omega),R2.out,TW.out])
    have LN:=hid (show r2.2.l.length<z.l.length from by have:=MH.out z.nx;rw [R2.out] at this;have:=nx_len ZL.out.1;omega)
    have FL:=hid RI.out.2
    clear RI OA OT
    go_wp2_with fail
    go_roundg (r2.2.l.length)
    case measure=>exact LN.out
    case rel=>exact ⟨f - 1,_,_,_,_,r2.2,rfl,LP,⟨RZ.out,by have:=LN.out;have:=FL.out;omega⟩⟩
   | false =>
    have Y1:=hid y1
    clear y1
    rw [rounds_succ]
    have o0:=LP.out.os 0 _ rfl
    have TK:=hid (rtake_any LP.out.hs ⟨#[43]⟩)
    rw [tk_no Y0.out,Y0.out] at TK
    go_wp2_with fail
    go_at_call 41
    with_reducible refine Calls.mono TK.out ?_
    rintro e w10 ⟨rfl,h10,g10⟩
    replace LP:=hid (LP.out.gr h10 g10)
    have p0:=LP.out.os 0 _ rfl
    clear h10 g10 TK o0
    go_wp2_with fail
    rw [rounds_succ]
    have o1:=LP.out.os 1 _ rfl
    have TK:=hid (rtake_any LP.out.hs ⟨#[45]⟩)
    rw [tk_no Y1.out,Y1.out] at TK
    go_wp2_with fail
    go_at_call 41
    with_reducible refine Calls.mono TK.out ?_
    rintro e w11 ⟨rfl,h11,g11⟩
    replace LP:=hid (LP.out.gr h11 g11)
    have p1:=LP.out.os 1 _ rfl
    clear h11 g11 TK o1
    go_wp2_with fail
    rw [rounds_succ]
    go_upto_region 12 with fail
    have RZ:=hid (show R=(t,z) from by rw [← RI.out.1];exact loopX_no (by rw [OA.out];simp [rowOps,Y0.out,Y1.out]))
    clear RI OA
    have RZ':=RZ.out
    subst RZ'
    obtain ⟨u0,u1,u2,u3,u4,u5,uz⟩:=LP.out.hb
    obtain ⟨m0,m1,m2,m3,m4,m5,mz⟩:=(show B6 _ q (.string t.op) (.string t.name) (.int .i64 (t.kind:Nat)) (.int .i64 t.n) (.int .i64 (t.pl:Nat)) (.slice sa sm sc) from LP.out.bq.b)
    have nq:n0≤q:=LP.out.bq.l
    have BF:=hid (LP.out.hb.sets (.string t.op) (.string t.name) (.int .i64 (t.kind:Nat)) (.int .i64 t.n) (.int .i64 (t.pl:Nat)) (.slice sa sm sc))
    have SF:=hid (LP.out.hs.put6 (q:=w.heap.size) (by omega) (by omega) (.string t.op) (.string t.name) (.int .i64 (t.kind:Nat)) (.int .i64 t.n) (.int .i64 (t.pl:Nat)) (.slice sa sm sc))
    have GF:=hid (LP.out.hg.put6 (q:=w.heap.size) (by omega) (.string t.op) (.string t.name) (.int .i64 (t.kind:Nat)) (.int .i64 t.n) (.int .i64 (t.pl:Nat)) (.slice sa sm sc))
    have NF:=hid ((LP.out.bq.d.keep (S':=fun g=>n0≤g) fun g s l=>⟨s.1,rfl⟩).put6x (q:=w.heap.size) (m:=w.heap.size) wn (by omega) (.string t.op) (.string t.name) (.int .i64 (t.kind:Nat)) (.int .i64 t.n) (.int .i64 (t.pl:Nat)) (.slice sa sm sc))
    go_wp2_with fail
    generalize World.setCell _ ⟨w.heap.size,5,none⟩ _=wf at *
    obtain ⟨q0,q1,q2,q3,q4,q5,_⟩:=BF.out
    exact bodyPost_ret (v:=.agg #[.string t.op,.string t.name,.int .i64 (t.kind:Nat),.int .i64 t.n,.int .i64 (t.pl:Nat),.slice sa sm sc]) (by simp [results,Tryd.results71,go_sem,q0,q1,q2,q3,q4,q5]) rfl ⟨GF.out,SF.out,_,rfl,_,rfl,NF.out⟩
set_option maxRecDepth 100000 in
set_option maxHeartbeats 4000000 in
theorem rrow_4 {w:World} {p b c:Nat} {ws:List Wo} {d:Nat} {s:Sp} (h:Sw w p b c ws d s) (B:Ax) (hB:∀ w s,Sw w p b c ws d s→Calls Tryd.prog 71 #[.pointer (some ⟨p,0,none⟩),.int .i64 5] w fun e w'=>Rn w w' p b c ws d e (B s)) (hM:∀ s,(B s).2.l.length≤s.l.length) (R:Tr × Sp) (hR:loopX B 4 (B s).2.l.length (B s).1 (B s).2=R) :
  Calls Tryd.prog 71 #[.pointer (some ⟨p,0,none⟩),.int .i64 4] w fun e w'=>Rn w w' p b c ws d e R:=by
 have pl0:=h.pl
 have bl0:=h.bl
 have HB:=hid (B6.new w 31 (.string ⟨#[]⟩) (.string ⟨#[]⟩) (.int .i64 0) (.int .i64 0) (.int .i64 0) (.slice none 0 0))
 have HS0:Hid (Below w.heap.size w (w.alloc (.cells #[.string ⟨#[]⟩,.string ⟨#[]⟩,.int .i64 0,.int .i64 0,.int .i64 0,.slice none 0 0] 31))):=(Below.refl _ _).alloc (Nat.le_refl _) _
 have HS:=hid (h.next HS0.out)
 have HG:=hid ((Gr.refl w p).below HS0.out)
 have WS:=hid (show w.heap.size<(w.alloc (.cells #[.string ⟨#[]⟩,.string ⟨#[]⟩,.int .i64 0,.int .i64 0,.int .i64 0,.slice none 0 0] 31)).heap.size from by simp)
 have f0:=fd0
 have f1:=fd1
 have f3:=fd3
 have BH:=hid hB
 have MH:=hid hM
 obtain ⟨r,hr⟩:∃ r,B s=r:=⟨_,rfl⟩
 rw [hr] at hR
 have RH:=hid hR
 have HRR:=hid hr
 clear h hB hM hR hr
 go_enter Tryd.func71,Tryd.ntmps71
 go_upto_region 1 with fail
 generalize World.alloc w _=w1 at *
 obtain ⟨n0,hn0⟩:∃ n,n=w1.heap.size:=⟨_,rfl⟩
 have wn:w.heap.size<n0:=by rw [hn0];exact WS.out
 have pn:p<n0:=by omega
 have bn:b<n0:=by omega
 replace WS:=hid (Nat.le_of_eq hn0)
 clear hn0 HS0
 go_upto_region 4 with fail
 have AL:=hid (show Below w1.heap.size w1 ((((((w1.alloc (.cells #[.string ⟨#[111,114]⟩] 9)).alloc (.cells #[.string ⟨#[97,110,100]⟩] 9)).alloc (.cells #[.string ⟨#[60]⟩,.string ⟨#[60,61]⟩,.string ⟨#[62]⟩,.string ⟨#[62,61]⟩,.string ⟨#[61,61]⟩,.string ⟨#[33,61]⟩] 9)).alloc (.cells #[.string ⟨#[43]⟩,.string ⟨#[45]⟩] 9)).alloc (.cells #[.string ⟨#[42]⟩,.string ⟨#[47]⟩] 9)).alloc (.cells #[.slice (some ⟨w1.heap.size,0,none⟩) 1 1,.slice (some ⟨w1.heap.size+1,0,none⟩) 1 1,.slice (some ⟨w1.heap.size+1+1,0,none⟩) 6 6,.slice (some ⟨w1.heap.size+1+1+1,0,none⟩) 2 2,.slice (some ⟨w1.heap.size+1+1+1+1,0,none⟩) 2 2] 23)) from ((((((Below.refl _ _).alloc (by simp) _).alloc (by simp) _).alloc (by simp;omega) _).alloc (by simp;omega) _).alloc (by simp;omega) _).alloc (by simp;omega) _)
 have OS:=hid (show Os ((((((w1.alloc (.cells #[.string ⟨#[111,114]⟩] 9)).alloc (.cells #[.string ⟨#[97,110,100]⟩] 9)).alloc (.cells #[.string ⟨#[60]⟩,.string ⟨#[60,61]⟩,.string ⟨#[62]⟩,.string ⟨#[62,61]⟩,.string ⟨#[61,61]⟩,.string ⟨#[33,61]⟩] 9)).alloc (.cells #[.string ⟨#[43]⟩,.string ⟨#[45]⟩] 9)).alloc (.cells #[.string ⟨#[42]⟩,.string ⟨#[47]⟩] 9)).alloc (.cells #[.slice (some ⟨w1.heap.size,0,none⟩) 1 1,.slice (some ⟨w1.heap.size+1,0,none⟩) 1 1,.slice (some ⟨w1.heap.size+1+1,0,none⟩) 6 6,.slice (some ⟨w1.heap.size+1+1+1,0,none⟩) 2 2,.slice (some ⟨w1.heap.size+1+1+1+1,0,none⟩) 2 2] 23)) (w1.heap.size+1+1+1+1) [⟨#[42]⟩,⟨#[47]⟩] from ((show Os (((((w1.alloc (.cells #[.string ⟨#[111,114]⟩] 9)).alloc (.cells #[.string ⟨#[97,110,100]⟩] 9)).alloc (.cells #[.string ⟨#[60]⟩,.string ⟨#[60,61]⟩,.string ⟨#[62]⟩,.string ⟨#[62,61]⟩,.string ⟨#[61,61]⟩,.string ⟨#[33,61]⟩] 9)).alloc (.cells #[.string ⟨#[43]⟩,.string ⟨#[45]⟩] 9)).alloc (.cells #[.string ⟨#[42]⟩,.string ⟨#[47]⟩] 9)) (w1.heap.size+1+1+1+1) [⟨#[42]⟩,⟨#[47]⟩] from by have:=os_new ((((w1.alloc (.cells #[.string ⟨#[111,114]⟩] 9)).alloc (.cells #[.string ⟨#[97,110,100]⟩] 9)).alloc (.cells #[.string ⟨#[60]⟩,.string ⟨#[60,61]⟩,.string ⟨#[62]⟩,.string ⟨#[62,61]⟩,.string ⟨#[61,61]⟩,.string ⟨#[33,61]⟩] 9)).alloc (.cells #[.string ⟨#[43]⟩,.string ⟨#[45]⟩] 9)) [⟨#[42]⟩,⟨#[47]⟩] 9;simpa only [World.size_alloc,List.map_cons,List.map_nil] using this).al (by decide) _))
 have go:n0≤w1.heap.size+1+1+1+1:=by have:=WS.out;omega
 replace HS:=hid (HS.out.next AL.out)
 replace HG:=hid (HG.out.below AL.out)
 replace HB:=hid (HB.out.next AL.out)
 replace WS:=hid (Nat.le_trans WS.out AL.out.size)
 clear AL
 generalize World.alloc (World.alloc (World.alloc (World.alloc (World.alloc (World.alloc w1 _) _) _) _) _) _=w2 at *
 generalize w1.heap.size+1+1+1+1=bo at *
 have EC:=hid (BH.out _ _ HS.out)
 rw [HRR.out] at EC
 go_wp2_with (go_at_call 71;with_reducible refine Calls.mono EC.out ?_;rintro e w4 h4;obtain ⟨g4,s4,sa4,sm4,sc4,rfl,nv4⟩:=h4.parts;have NV4:=hid nv4;have WO4:=WS;have OS4:=hid (OS.out.keep (g4.block bo (OS.out.lt (by decide)) (fun e=>by injection e with e;omega)));replace HG:=hid (HG.out.trans g4);replace HB:=hid (HB.out.gr g4 (by omega));replace WS:=hid (Nat.le_trans WS.out g4.size);replace HS:=hid s4;clear h4 g4 s4 nv4 EC OS)
 have AL:=hid (show Below w4.heap.size w4 (w4.alloc (.cells #[.string r.1.op,.string r.1.name,.int .i64 (r.1.kind:Nat),.int .i64 r.1.n,.int .i64 (r.1.pl:Nat),.slice sa4 sm4 sc4] 31)) from (Below.refl _ _).alloc (Nat.le_refl _) _)
 have bq:bo<w4.heap.size:=OS4.out.lt (by decide)
 have qn:n0≤w4.heap.size:=WS.out
 have LP:=hid (show Lp w (w4.alloc (.cells #[.string r.1.op,.string r.1.name,.int .i64 (r.1.kind:Nat),.int .i64 r.1.n,.int .i64 (r.1.pl:Nat),.slice sa4 sm4 sc4] 31)) p b c ws d n0 w4.heap.size bo [⟨#[42]⟩,⟨#[47]⟩] r.1 (.slice sa4 sm4 sc4) r.2 from ⟨HS.out.next AL.out,HG.out.below AL.out,HB.out.next AL.out,Nat.le_trans WS.out AL.out.size,Bq.new NV4.out WO4.out WS.out 31,OS4.out.al (by decide) _,by decide,by omega,by omega,wn,go⟩)
 clear AL HS HG HB WS WO4 NV4 OS4 HRR
 generalize World.alloc w4 _=y4 at *
 generalize w4.heap.size=q at *
 go_loopg [7] (r.2.l.length) (fun g ov wr=>∃ (f:Nat) (t:Tr) (sa:Option Addr) (sm sc:Nat) (z:Sp),g=z.l.length∧Hid (Lp w wr p b c ws d n0 q bo [⟨#[42]⟩,⟨#[47]⟩] t (.slice sa sm sc) z)∧Hid (loopX B 4 f t z=R∧z.l.length≤f))
 case atStart=>exact ⟨_,r.1,_,_,_,r.2,rfl,LP,⟨RH.out,Nat.le_refl _⟩⟩
 case round =>
  clear LP RH
  obtain ⟨f,t,sa,sm,sc,z,rfl,LP,RI⟩:=hrel
  have ZL:=hid (LP.out.hs.len)
  have WC:=hid (rw_any LP.out.hs)
  have OA:=hid (opAt_any 4 (by decide) z)
  go_wp2_with (go_at_call 40;with_reducible refine Calls.mono WC.out ?_;rintro e w5 ⟨rfl,b5⟩;replace LP:=hid (LP.out.next b5);clear b5 WC)
  refine wp_loop_rounds 3 ?_
  cases y0:z.is ⟨#[42]⟩ with
  | true =>
   have Y0:=hid y0
   clear y0
   rw [rounds_succ]
   have o0:=LP.out.os 0 _ rfl
   have TK:=hid (rtake_any LP.out.hs ⟨#[42]⟩)
   rw [tk_yes Y0.out,Y0.out] at TK
   go_wp2_with fail
   go_at_call 41
   with_reducible refine Calls.mono TK.out ?_
   rintro e w10 ⟨rfl,h10,g10⟩
   replace LP:=hid (LP.out.gr h10 g10)
   have p0:=LP.out.os 0 _ rfl
   clear h10 g10 TK o0
   go_wp2_with fail
   rw [rounds_succ]
   go_upto_region 12 with fail
   have TW:=hid (is_tw Y0.out)
   have OT:=hid (show opAt 4 z=true from by rw [OA.out];simp [rowOps,Y0.out])
   obtain ⟨r2,hr2⟩:∃ r2,B z.nx=r2:=⟨_,rfl⟩
   have EC:=hid (BH.out _ _ LP.out.hs)
   rw [hr2] at EC
   have R2:=hid hr2
   clear hr2
   go_upto_region 15 with (go_at_call 71;with_reducible refine Calls.mono EC.out ?_;rintro e w20 h20;obtain ⟨g20,s20,sa20,sm20,sc20,rfl,nv20⟩:=h20.parts;have QL:=hid LP.out.bq.b.lt;have NV20:=hid nv20;replace LP:=hid (LP.out.gr s20 g20);have GS:=hid g20.size;clear h20 g20 s20 nv20 EC)
   have BB:=hid (Bx.new (m:=q+1) NV20.out QL.out (Nat.le_trans QL.out GS.out) 31)
   have AL:=hid (show Below w20.heap.size w20 (w20.alloc (.cells #[.string r2.1.op,.string r2.1.name,.int .i64 (r2.1.kind:Nat),.int .i64 r2.1.n,.int .i64 (r2.1.pl:Nat),.slice sa20 sm20 sc20] 31)) from (Below.refl _ _).alloc (Nat.le_refl _) _)
   replace LP:=hid (LP.out.next AL.out)
   have gb:q<w20.heap.size:=BB.out.l
   clear AL NV20 QL GS
   generalize World.alloc w20 _=y20 at *
   generalize w20.heap.size=bb at *
   obtain ⟨e0,e1,e2,e3,e4,e5,_⟩:=BB.out.b
   obtain ⟨m0,m1,m2,m3,m4,m5,mz⟩:=LP.out.bq.b
   have HS7:=hid (show Below y20.heap.size y20 (y20.alloc (.cells #[.string t.op,.string t.name,.int .i64 (t.kind:Nat),.int .i64 t.n,.int .i64 (t.pl:Nat),.slice sa sm sc,.string r2.1.op,.string r2.1.name,.int .i64 (r2.1.kind:Nat),.int .i64 r2.1.n,.int .i64 (r2.1.pl:Nat),.slice sa20 sm20 sc20] 31)) from (Below.refl _ _).alloc (Nat.le_refl _) _)
   have C0:=hid (show NC (y20.alloc (.cells #[.string t.op,.string t.name,.int .i64 (t.kind:Nat),.int .i64 t.n,.int .i64 (t.pl:Nat),.slice sa sm sc,.string r2.1.op,.string r2.1.name,.int .i64 (r2.1.kind:Nat),.int .i64 r2.1.n,.int .i64 (r2.1.pl:Nat),.slice sa20 sm20 sc20] 31)) y20.heap.size 0 t (.slice sa sm sc) from ⟨by simp,by simp,by simp,by simp,by simp,by simp⟩)
   have C6:=hid (show NC (y20.alloc (.cells #[.string t.op,.string t.name,.int .i64 (t.kind:Nat),.int .i64 t.n,.int .i64 (t.pl:Nat),.slice sa sm sc,.string r2.1.op,.string r2.1.name,.int .i64 (r2.1.kind:Nat),.int .i64 r2.1.n,.int .i64 (r2.1.pl:Nat),.slice sa20 sm20 sc20] 31)) y20.heap.size 6 r2.1 (.slice sa20 sm20 sc20) from ⟨by simp,by simp,by simp,by simp,by simp,by simp⟩)
   have QL2:=hid LP.out.bq.b.lt
   have nq:n0≤q:=LP.out.bq.l
   have NN7:=hid (nd_two2 (c:=2) (S:=fun g=>n0≤g∧g≠q) ⟨by have:=QL2.out;omega,by have:=QL2.out;omega⟩ C0.out C6.out (LP.out.bq.d.keep fun g s l=>⟨s,HS7.out.block g l⟩) (BB.out.d.keep fun g s l=>⟨⟨by omega,by omega⟩,HS7.out.block g l⟩))
   replace LP:=hid (LP.out.next HS7.out)
   clear HS7 C0 C6
   obtain ⟨k0,k1,k2,k3,k4,k5,kz⟩:=LP.out.bq.b
   replace LP:=hid (show Lp w (((((((y20.alloc (.cells #[.string t.op,.string t.name,.int .i64 (t.kind:Nat),.int .i64 t.n,.int .i64 (t.pl:Nat),.slice sa sm sc,.string r2.1.op,.string r2.1.name,.int .i64 (r2.1.kind:Nat),.int .i64 r2.1.n,.int .i64 (r2.1.pl:Nat),.slice sa20 sm20 sc20] 31)).setCell ⟨q,0,none⟩ (.string ⟨#[42]⟩)).setCell ⟨q,1,none⟩ (.string ⟨#[]⟩)).setCell ⟨q,2,none⟩ (.int .i64 0)).setCell ⟨q,3,none⟩ (.int .i64 0)).setCell ⟨q,4,none⟩ (.int .i64 (aw z.l:Nat))).setCell ⟨q,5,none⟩ (.slice (some ⟨y20.heap.size,0,none⟩) 2 2)) p b c ws d n0 q bo [⟨#[42]⟩,⟨#[47]⟩] (two ⟨#[42]⟩ (aw z.l) t r2.1) (.slice (some ⟨y20.heap.size,0,none⟩) 2 2) r2.2 from LP.out.up (two ⟨#[42]⟩ (aw z.l) t r2.1) (.slice (some ⟨y20.heap.size,0,none⟩) 2 2) NN7.out (by omega))
   go_upto_region 16 with fail
   generalize World.setCell _ ⟨q,5,none⟩ _=y21 at *
   generalize y20.heap.size=bz at *
   clear m0 m1 m2 m3 m4 m5 mz k0 k1 k2 k3 k4 k5 kz e0 e1 e2 e3 e4 e5 BB NN7
   have RZ:=hid (show loopX B 4 (f - 1) (two ⟨#[42]⟩ (aw z.l) t r2.1) r2.2=R from by rw [← RI.out.1,loop_on OT.out (by decide) (by have:=ZL.out.1;have:=RI.out.2;omega),R2.out,TW.out])
   have LN:=hid (show r2.2.l.length<z.l.length from by have:=MH.out z.nx;rw [R2.out] at this;have:=nx_len ZL.out.1;omega)
   have FL:=hid RI.out.2
   clear RI OA OT
   go_wp2_with fail
   go_roundg (r2.2.l.length)
   case measure=>exact LN.out
   case rel=>exact ⟨f - 1,_,_,_,_,r2.2,rfl,LP,⟨RZ.out,by have:=LN.out;have:=FL.out;omega⟩⟩
  | false =>
   have Y0:=hid y0
   clear y0
   cases y1:z.is ⟨#[47]⟩ with
   | true =>
    have Y1:=hid y1
    clear y1
    rw [rounds_succ]
    have o0:=LP.out.os 0 _ rfl
    have TK:=hid (rtake_any LP.out.hs ⟨#[42]⟩)
    rw [tk_no Y0.out,Y0.out] at TK
    go_wp2_with fail
    go_at_call 41
    with_reducible refine Calls.mono TK.out ?_
    rintro e w10 ⟨rfl,h10,g10⟩
    replace LP:=hid (LP.out.gr h10 g10)
    have p0:=LP.out.os 0 _ rfl
    clear h10 g10 TK o0
    go_wp2_with fail
    rw [rounds_succ]
    have o1:=LP.out.os 1 _ rfl
    have TK:=hid (rtake_any LP.out.hs ⟨#[47]⟩)
    rw [tk_yes Y1.out,Y1.out] at TK
    go_wp2_with fail
    go_at_call 41
    with_reducible refine Calls.mono TK.out ?_
    rintro e w11 ⟨rfl,h11,g11⟩
    replace LP:=hid (LP.out.gr h11 g11)
    have p1:=LP.out.os 1 _ rfl
    clear h11 g11 TK o1
    go_wp2_with fail
    rw [rounds_succ]
    go_upto_region 12 with fail
    have TW:=hid (is_tw Y1.out)
    have OT:=hid (show opAt 4 z=true from by rw [OA.out];simp [rowOps,Y1.out])
    obtain ⟨r2,hr2⟩:∃ r2,B z.nx=r2:=⟨_,rfl⟩
    have EC:=hid (BH.out _ _ LP.out.hs)
    rw [hr2] at EC
    have R2:=hid hr2
    clear hr2
    go_upto_region 15 with (go_at_call 71;with_reducible refine Calls.mono EC.out ?_;rintro e w20 h20;obtain ⟨g20,s20,sa20,sm20,sc20,rfl,nv20⟩:=h20.parts;have QL:=hid LP.out.bq.b.lt;have NV20:=hid nv20;replace LP:=hid (LP.out.gr s20 g20);have GS:=hid g20.size;clear h20 g20 s20 nv20 EC)
    have BB:=hid (Bx.new (m:=q+1) NV20.out QL.out (Nat.le_trans QL.out GS.out) 31)
    have AL:=hid (show Below w20.heap.size w20 (w20.alloc (.cells #[.string r2.1.op,.string r2.1.name,.int .i64 (r2.1.kind:Nat),.int .i64 r2.1.n,.int .i64 (r2.1.pl:Nat),.slice sa20 sm20 sc20] 31)) from (Below.refl _ _).alloc (Nat.le_refl _) _)
    replace LP:=hid (LP.out.next AL.out)
    have gb:q<w20.heap.size:=BB.out.l
    clear AL NV20 QL GS
    generalize World.alloc w20 _=y20 at *
    generalize w20.heap.size=bb at *
    obtain ⟨e0,e1,e2,e3,e4,e5,_⟩:=BB.out.b
    obtain ⟨m0,m1,m2,m3,m4,m5,mz⟩:=LP.out.bq.b
    have HS7:=hid (show Below y20.heap.size y20 (y20.alloc (.cells #[.string t.op,.string t.name,.int .i64 (t.kind:Nat),.int .i64 t.n,.int .i64 (t.pl:Nat),.slice sa sm sc,.string r2.1.op,.string r2.1.name,.int .i64 (r2.1.kind:Nat),.int .i64 r2.1.n,.int .i64 (r2.1.pl:Nat),.slice sa20 sm20 sc20] 31)) from (Below.refl _ _).alloc (Nat.le_refl _) _)
    have C0:=hid (show NC (y20.alloc (.cells #[.string t.op,.string t.name,.int .i64 (t.kind:Nat),.int .i64 t.n,.int .i64 (t.pl:Nat),.slice sa sm sc,.string r2.1.op,.string r2.1.name,.int .i64 (r2.1.kind:Nat),.int .i64 r2.1.n,.int .i64 (r2.1.pl:Nat),.slice sa20 sm20 sc20] 31)) y20.heap.size 0 t (.slice sa sm sc) from ⟨by simp,by simp,by simp,by simp,by simp,by simp⟩)
    have C6:=hid (show NC (y20.alloc (.cells #[.string t.op,.string t.name,.int .i64 (t.kind:Nat),.int .i64 t.n,.int .i64 (t.pl:Nat),.slice sa sm sc,.string r2.1.op,.string r2.1.name,.int .i64 (r2.1.kind:Nat),.int .i64 r2.1.n,.int .i64 (r2.1.pl:Nat),.slice sa20 sm20 sc20] 31)) y20.heap.size 6 r2.1 (.slice sa20 sm20 sc20) from ⟨by simp,by simp,by simp,by simp,by simp,by simp⟩)
    have QL2:=hid LP.out.bq.b.lt
    have nq:n0≤q:=LP.out.bq.l
    have NN7:=hid (nd_two2 (c:=2) (S:=fun g=>n0≤g∧g≠q) ⟨by have:=QL2.out;omega,by have:=QL2.out;omega⟩ C0.out C6.out (LP.out.bq.d.keep fun g s l=>⟨s,HS7.out.block g l⟩) (BB.out.d.keep fun g s l=>⟨⟨by omega,by omega⟩,HS7.out.block g l⟩))
    replace LP:=hid (LP.out.next HS7.out)
    clear HS7 C0 C6
    obtain ⟨k0,k1,k2,k3,k4,k5,kz⟩:=LP.out.bq.b
    replace LP:=hid (show Lp w (((((((y20.alloc (.cells #[.string t.op,.string t.name,.int .i64 (t.kind:Nat),.int .i64 t.n,.int .i64 (t.pl:Nat),.slice sa sm sc,.string r2.1.op,.string r2.1.name,.int .i64 (r2.1.kind:Nat),.int .i64 r2.1.n,.int .i64 (r2.1.pl:Nat),.slice sa20 sm20 sc20] 31)).setCell ⟨q,0,none⟩ (.string ⟨#[47]⟩)).setCell ⟨q,1,none⟩ (.string ⟨#[]⟩)).setCell ⟨q,2,none⟩ (.int .i64 0)).setCell ⟨q,3,none⟩ (.int .i64 0)).setCell ⟨q,4,none⟩ (.int .i64 (aw z.l:Nat))).setCell ⟨q,5,none⟩ (.slice (some ⟨y20.heap.size,0,none⟩) 2 2)) p b c ws d n0 q bo [⟨#[42]⟩,⟨#[47]⟩] (two ⟨#[47]⟩ (aw z.l) t r2.1) (.slice (some ⟨y20.heap.size,0,none⟩) 2 2) r2.2 from LP.out.up (two ⟨#[47]⟩ (aw z.l) t r2.1) (.slice (some ⟨y20.heap.size,0,none⟩) 2 2) NN7.out (by omega))
    go_upto_region 16 with fail
    generalize World.setCell _ ⟨q,5,none⟩ _=y21 at *
    generalize y20.heap.size=bz at *
    clear m0 m1 m2 m3 m4 m5 mz k0 k1 k2 k3 k4 k5 kz e0 e1 e2 e3 e4 e5 BB NN7
    have RZ:=hid (show loopX B 4 (f - 1) (two ⟨#[47]⟩ (aw z.l) t r2.1) r2.2=R from by rw [← RI.out.1,loop_on OT.out (by decide) (by have:=ZL.out.1;have:=RI.out.2;omega),R2.out,TW.out])
    have LN:=hid (show r2.2.l.length<z.l.length from by have:=MH.out z.nx;rw [R2.out] at this;have:=nx_len ZL.out.1;omega)
    have FL:=hid RI.out.2
    clear RI OA OT
    go_wp2_with fail
    go_roundg (r2.2.l.length)
    case measure=>exact LN.out
    case rel=>exact ⟨f - 1,_,_,_,_,r2.2,rfl,LP,⟨RZ.out,by have:=LN.out;have:=FL.out;omega⟩⟩
   | false =>
    have Y1:=hid y1
    clear y1
    rw [rounds_succ]
    have o0:=LP.out.os 0 _ rfl
    have TK:=hid (rtake_any LP.out.hs ⟨#[42]⟩)
    rw [tk_no Y0.out,Y0.out] at TK
    go_wp2_with fail
    go_at_call 41
    with_reducible refine Calls.mono TK.out ?_
    rintro e w10 ⟨rfl,h10,g10⟩
    replace LP:=hid (LP.out.gr h10 g10)
    have p0:=LP.out.os 0 _ rfl
    clear h10 g10 TK o0
    go_wp2_with fail
    rw [rounds_succ]
    have o1:=LP.out.os 1 _ rfl
    have TK:=hid (rtake_any LP.out.hs ⟨#[47]⟩)
    rw [tk_no Y1.out,Y1.out] at TK
    go_wp2_with fail
    go_at_call 41
    with_reducible refine Calls.mono TK.out ?_
    rintro e w11 ⟨rfl,h11,g11⟩
    replace LP:=hid (LP.out.gr h11 g11)
    have p1:=LP.out.os 1 _ rfl
    clear h11 g11 TK o1
    go_wp2_with fail
    rw [rounds_succ]
    go_upto_region 12 with fail
    have RZ:=hid (show R=(t,z) from by rw [← RI.out.1];exact loopX_no (by rw [OA.out];simp [rowOps,Y0.out,Y1.out]))
    clear RI OA
    have RZ':=RZ.out
    subst RZ'
    obtain ⟨u0,u1,u2,u3,u4,u5,uz⟩:=LP.out.hb
    obtain ⟨m0,m1,m2,m3,m4,m5,mz⟩:=(show B6 _ q (.string t.op) (.string t.name) (.int .i64 (t.kind:Nat)) (.int .i64 t.n) (.int .i64 (t.pl:Nat)) (.slice sa sm sc) from LP.out.bq.b)
    have nq:n0≤q:=LP.out.bq.l
    have BF:=hid (LP.out.hb.sets (.string t.op) (.string t.name) (.int .i64 (t.kind:Nat)) (.int .i64 t.n) (.int .i64 (t.pl:Nat)) (.slice sa sm sc))
    have SF:=hid (LP.out.hs.put6 (q:=w.heap.size) (by omega) (by omega) (.string t.op) (.string t.name) (.int .i64 (t.kind:Nat)) (.int .i64 t.n) (.int .i64 (t.pl:Nat)) (.slice sa sm sc))
    have GF:=hid (LP.out.hg.put6 (q:=w.heap.size) (by omega) (.string t.op) (.string t.name) (.int .i64 (t.kind:Nat)) (.int .i64 t.n) (.int .i64 (t.pl:Nat)) (.slice sa sm sc))
    have NF:=hid ((LP.out.bq.d.keep (S':=fun g=>n0≤g) fun g s l=>⟨s.1,rfl⟩).put6x (q:=w.heap.size) (m:=w.heap.size) wn (by omega) (.string t.op) (.string t.name) (.int .i64 (t.kind:Nat)) (.int .i64 t.n) (.int .i64 (t.pl:Nat)) (.slice sa sm sc))
    go_wp2_with fail
    generalize World.setCell _ ⟨w.heap.size,5,none⟩ _=wf at *
    obtain ⟨q0,q1,q2,q3,q4,q5,_⟩:=BF.out
    exact bodyPost_ret (v:=.agg #[.string t.op,.string t.name,.int .i64 (t.kind:Nat),.int .i64 t.n,.int .i64 (t.pl:Nat),.slice sa sm sc]) (by simp [results,Tryd.results71,go_sem,q0,q1,q2,q3,q4,q5]) rfl ⟨GF.out,SF.out,_,rfl,_,rfl,NF.out⟩
end Go.Proofs.YtbeahnehjannpaaDoor
