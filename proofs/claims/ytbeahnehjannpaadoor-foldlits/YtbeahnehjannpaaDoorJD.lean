/- Parts of the proof. -/
import Derived.Test.YtbeahnehjannpaaDoorKE
import Derived.Deep.LoopGhost
namespace Go.Proofs.YtbeahnehjannpaaDoor
open Go.RowKit
set_option linter.unusedVariables false
set_option linter.unusedSimpArgs false
mutual
def smT:Tr→Tr→Bool
 | .nd o m k n _ ks,.nd o' m' k' n' _ ks'=>eqB o o' && eqB m m' && decide (k=k') && decide (n=n') && smL ks ks'
def smL:List Tr→List Tr→Bool
 | [],[]=>true
 | [],_ :: _=>false
 | _ :: _,[]=>false
 | t :: ts,u :: us=>smT t u && smL ts us
end
theorem Nd.at_ {w:World} {S:Nat→Prop} {sa:Option Addr} {sm sc:Nat} {ts:List Tr} (h:Nd w S (.slice sa sm sc) ts) (j:Nat) (t:Tr) (e:ts[j]?=some t):∃ (g:Nat) (a:Option Addr) (m c:Nat),sa=some ⟨g,0,none⟩∧sm=ts.length∧NC w g (j*6) t (.slice a m c)∧Nd w S (.slice a m c) t.kids:=by
 cases h with
 | nil=>simp at e
 | row g c ts sl hs h0 hc hk =>
  obtain ⟨a,m,c',q⟩:=(hk j t e).slice
  have h1:=hc j t e
  have h2:=hk j t e
  rw [q] at h1 h2
  exact ⟨g,a,m,c',rfl,rfl,h1,h2⟩
def SmC (t u:Tr):Prop:=∀ (w:World) (S:Nat→Prop) (aa ba:Option Addr) (am ac bm bc:Nat),Nd w S (.slice aa am ac) t.kids→Nd w S (.slice ba bm bc) u.kids→Calls Tryd.prog 8 #[.agg #[.string t.op,.string t.name,.int .i64 (t.kind:Nat),.int .i64 t.n,.int .i64 (t.pl:Nat),.slice aa am ac],.agg #[.string u.op,.string u.name,.int .i64 (u.kind:Nat),.int .i64 u.n,.int .i64 (u.pl:Nat),.slice ba bm bc]] w fun e w'=>e=.returned (.bool (smT t u))∧Below w.heap.size w w'
theorem Nd.any {w w':World} {S:Nat→Prop} {v:Value} {ts:List Tr} (h:Nd w S v ts) (hb:Below w.heap.size w w'):Nd w' S v ts:=h.keep fun g s l=>⟨s,hb.block g l⟩
theorem smL_len:∀ (ts us:List Tr),ts.length≠us.length→smL ts us=false
 | [],[],h=>absurd rfl h
 | [],_ :: _,h=>rfl
 | _ :: _,[],h=>rfl
 | t :: ts,u :: us,h=>by
  unfold smL
  rw [smL_len ts us (by simpa using h),Bool.and_false]
set_option maxRecDepth 100000 in
set_option maxHeartbeats 2000000 in
theorem eqf_any (ts us:List Tr) (w:World) (S:Nat→Prop) (aa ba:Option Addr) (am ac bm bc:Nat) (hA:Nd w S (.slice aa am ac) ts) (hB:Nd w S (.slice ba bm bc) us) (hl:ts.length≤100000) (hC:∀ t ∈ ts,∀ u ∈ us,SmC t u) :
  Calls Tryd.prog 18 #[.slice aa am ac,.slice ba bm bc,.func (.func 8) #[] #[]] w fun e w'=>e=.returned (.bool (smL ts us))∧Below w.heap.size w w':=by
 have ea:am=ts.length:=by cases hA <;> rfl
 have eb:bm=us.length:=by cases hB <;> rfl
 subst ea eb
 by_cases y:ts.length=us.length
 ·have NA:=hid hA
  have NB:=hid hB
  have CH:=hid hC
  have y':(ts.length:Int)=(us.length:Int):=by omega
  have l1:(us.length:Int)≤100000:=by omega
  obtain ⟨F,hF⟩:∃ F,smL ts us=F:=⟨_,rfl⟩
  have FE:=hid hF
  rw [hF]
  clear hA hB hC hF
  rw [y]
  go_enter Tryd.func18,Tryd.ntmps18
  go_upto_region 4 with fail
  go_loopg [17] (us.length+1) (fun g iv wr=>∃ i:Nat,i≤us.length∧g=us.length+1 - i∧iv=.int .i64 (i:Nat)∧Hid (Below w.heap.size w wr)∧Hid (smL (ts.drop i) (us.drop i)=F))
  case atStart=>exact ⟨0,Nat.zero_le _,rfl,rfl,Below.refl _ _,FE⟩
  case round =>
   obtain ⟨i,hi,rfl,rfl,HB,EH⟩:=hrel
   by_cases q:i<us.length
   ·have q':(i:Int)<(us.length:Int):=by omega
    obtain ⟨t,ht⟩:∃ t,ts[i]?=some t:=⟨_,List.getElem?_eq_getElem (by omega)⟩
    obtain ⟨u,hu⟩:∃ u,us[i]?=some u:=⟨_,List.getElem?_eq_getElem q⟩
    have SE:=hid (show (smT t u && smL (ts.drop (i+1)) (us.drop (i+1)))=F from by rw [← EH.out,List.drop_eq_getElem_cons (by omega:i<ts.length),List.drop_eq_getElem_cons q,(List.getElem?_eq_some_iff.1 ht).2,(List.getElem?_eq_some_iff.1 hu).2];rfl)
    obtain ⟨g1,a1,m1,c1,rfl,_,n1,d1⟩:=(NA.out.any HB.out).at_ i t ht
    obtain ⟨g2,a2,m2,c2,rfl,_,n2,d2⟩:=(NB.out.any HB.out).at_ i u hu
    obtain ⟨k0,k1,k2,k3,k4,k5⟩:=n1
    obtain ⟨j0,j1,j2,j3,j4,j5⟩:=n2
    have BL1:=hid (show Below wr.heap.size wr (wr.alloc (.cells #[.string t.op,.string t.name,.int .i64 (t.kind:Nat),.int .i64 t.n,.int .i64 (t.pl:Nat),.slice a1 m1 c1] 28)) from (Below.refl _ _).alloc (Nat.le_refl _) _)
    have X1:=hid (B6.new wr 28 (.string t.op) (.string t.name) (.int .i64 (t.kind:Nat)) (.int .i64 t.n) (.int .i64 (t.pl:Nat)) (.slice a1 m1 c1))
    have D1:=hid (d1.any BL1.out)
    have D2:=hid (d2.any BL1.out)
    have HB1:=hid (nextB HB.out BL1.out)
    have CS:=hid (CH.out t (List.mem_of_getElem? ht) u (List.mem_of_getElem? hu))
    have J:=hid (show NC (wr.alloc (.cells #[.string t.op,.string t.name,.int .i64 (t.kind:Nat),.int .i64 t.n,.int .i64 (t.pl:Nat),.slice a1 m1 c1] 28)) g2 (i*6) u (.slice a2 m2 c2) from NC.keep ⟨j0,j1,j2,j3,j4,j5⟩ (BL1.out.block _ (World.block_lt_of_cell? _ _ j0)))
    go_upto_region 6 with fail
    clear k0 k1 k2 k3 k4 k5 j0 j1 j2 j3 j4 j5 d1 d2 BL1 ht hu
    generalize World.alloc wr _=w2 at *
    generalize wr.heap.size=q1 at *
    obtain ⟨j0,j1,j2,j3,j4,j5⟩:=J.out
    have BL2:=hid (show Below w2.heap.size w2 (w2.alloc (.cells #[.string u.op,.string u.name,.int .i64 (u.kind:Nat),.int .i64 u.n,.int .i64 (u.pl:Nat),.slice a2 m2 c2] 28)) from (Below.refl _ _).alloc (Nat.le_refl _) _)
    have X2:=hid (B6.new w2 28 (.string u.op) (.string u.name) (.int .i64 (u.kind:Nat)) (.int .i64 u.n) (.int .i64 (u.pl:Nat)) (.slice a2 m2 c2))
    have Y1:=hid (X1.out.next BL2.out)
    have HB2:=hid (nextB HB1.out BL2.out)
    have KC:=hid (CS.out _ S a1 a2 m1 c1 m2 c2 (D1.out.any BL2.out) (D2.out.any BL2.out))
    go_upto_region 7 with fail
    clear j0 j1 j2 j3 j4 j5 BL2
    generalize World.alloc w2 _=w3 at *
    generalize w2.heap.size=q2 at *
    obtain ⟨p0,p1,p2,p3,p4,p5,_⟩:=Y1.out
    obtain ⟨r0,r1,r2,r3,r4,r5,_⟩:=X2.out
    cases z:smT t u
    ·rw [z] at KC
     have FF:=hid (show F=false from by rw [← SE.out,z];rfl)
     clear z
     go_wp2_with (go_at_call 8;with_reducible refine Calls.mono KC.out ?_;rintro e w4 ⟨rfl,b4⟩)
     go_ret
     exact ⟨by rw [FF.out];rfl,nextB HB2.out b4⟩
    ·rw [z] at KC
     have FF:=hid (show smL (ts.drop (i+1)) (us.drop (i+1))=F from by rw [← SE.out,z];rfl)
     clear z
     go_wp2_with (go_at_call 8;with_reducible refine Calls.mono KC.out ?_;rintro e w4 ⟨rfl,b4⟩)
     go_roundg (us.length+1 - (i+1))
     case measure=>omega
     case rel=>exact ⟨i+1,by omega,rfl,by rw [Int.natCast_add];rfl,nextB HB2.out b4,FF⟩
   ·have q':¬ (i:Int)<(us.length:Int):=by omega
    have FF:=hid (show F=true from by rw [← EH.out,List.drop_eq_nil_of_le (by omega),List.drop_eq_nil_of_le (by omega)];rfl)
    go_wp2_with fail
    go_ret
    exact ⟨by rw [FF.out];rfl,HB.out⟩
 ·rw [smL_len ts us y]
  have y':(ts.length:Int)≠(us.length:Int):=by omega
  clear hA hB hC
  go_enter Tryd.func18,Tryd.ntmps18
  go_wp2
  go_ret
  exact ⟨rfl,Below.refl _ _⟩
inductive Nw:Tr→Prop
 | nd (o m:ByteArray) (k:Nat) (n:Int) (p:Nat) (ks:List Tr) (hl:ks.length≤100000) (hk:∀ t ∈ ks,Nw t):Nw (.nd o m k n p ks)
set_option maxRecDepth 100000 in
set_option maxHeartbeats 4000000 in
theorem same_nd (o m o' m':ByteArray) (k k':Nat) (n n':Int) (p p':Nat) (ks us:List Tr) (hl:ks.length≤100000) (hC:∀ t ∈ ks,∀ u ∈ us,SmC t u):SmC (.nd o m k n p ks) (.nd o' m' k' n' p' us):=by
 intro w S aa ba am ac bm bc hA hB
 simp only [Tr.op,Tr.name,Tr.kind,Tr.n,Tr.pl,Tr.kids] at hA hB ⊢
 have B1:=hid (show Below w.heap.size w (w.alloc (.cells #[.string o,.string m,.int .i64 (k:Nat),.int .i64 n,.int .i64 (p:Nat),.slice aa am ac] 28)) from (Below.refl _ _).alloc (Nat.le_refl _) _)
 have X1:=hid (B6.new w 28 (.string o) (.string m) (.int .i64 (k:Nat)) (.int .i64 n) (.int .i64 (p:Nat)) (.slice aa am ac))
 obtain ⟨w1,hw1⟩:∃ w1,(w.alloc (.cells #[.string o,.string m,.int .i64 (k:Nat),.int .i64 n,.int .i64 (p:Nat),.slice aa am ac] 28))=w1:=⟨_,rfl⟩
 rw [hw1] at B1 X1
 have S1:=hid (show w1.heap.size=w.heap.size+1 from by rw [← hw1];simp)
 have B2':=hid (show Below w1.heap.size w1 (w1.alloc (.cells #[.string o',.string m',.int .i64 (k':Nat),.int .i64 n',.int .i64 (p':Nat),.slice ba bm bc] 28)) from (Below.refl _ _).alloc (Nat.le_refl _) _)
 have X2:=hid (B6.new w1 28 (.string o') (.string m') (.int .i64 (k':Nat)) (.int .i64 n') (.int .i64 (p':Nat)) (.slice ba bm bc))
 have Y1:=hid (X1.out.next B2'.out)
 have B2:=hid (nextB B1.out B2'.out)
 have EC:=hid (eqf_any ks us _ S aa ba am ac bm bc (hA.any B2.out) (hB.any B2.out) hl hC)
 obtain ⟨F,hF⟩:∃ F,smT (.nd o m k n p ks) (.nd o' m' k' n' p' us)=F:=⟨_,rfl⟩
 have FE:=hid hF
 rw [hF]
 clear hA hB hC hF B2'
 go_enter Tryd.func8,Tryd.ntmps8
 go_upto_region 1 with fail
 clear hw1
 generalize World.alloc w1 _=w2 at *
 obtain ⟨a0,a1,a2,a3,a4,a5,az⟩:=Y1.out
 obtain ⟨b0,b1,b2,b3,b4,b5,bz⟩:=X2.out
 cases e1:eqB o o'
 ·have u1:(o.toList==o'.toList)=false:=(eqB_is o o').trans e1
  have FF:F=false:=by rw [← FE.out];unfold smT;rw [e1];simp
  subst FF
  go_wp2_with fail
  go_ret
  exact ⟨rfl,B2.out⟩
 ·have u1:(o.toList==o'.toList)=true:=(eqB_is o o').trans e1
  cases e2:eqB m m'
  ·have u2:(m.toList==m'.toList)=false:=(eqB_is m m').trans e2
   have FF:F=false:=by rw [← FE.out];unfold smT;rw [e2];simp
   subst FF
   go_wp2_with fail
   go_ret
   exact ⟨rfl,B2.out⟩
  ·have u2:(m.toList==m'.toList)=true:=(eqB_is m m').trans e2
   by_cases e3:k=k'
   ·subst e3
    by_cases e4:n=n'
    ·subst e4
     have FF:=hid (show smL ks us=F from by rw [← FE.out];unfold smT;rw [e1,e2];simp)
     rw [FF.out] at EC
     go_wp2_with (go_at_call 18;with_reducible refine Calls.mono EC.out ?_;rintro e w4 ⟨rfl,x4⟩)
     go_ret
     exact ⟨rfl,nextB B2.out x4⟩
    ·have u4:(n==n')=false:=by simpa using e4
     have FF:F=false:=by rw [← FE.out];unfold smT;rw [e1,e2,decide_eq_false e4];simp
     subst FF
     go_wp2_with fail
     go_ret
     exact ⟨rfl,B2.out⟩
   ·have u3:((k:Int)==(k':Int))=false:=by rw [beq_eq_false_iff_ne];omega
    have FF:F=false:=by rw [← FE.out];unfold smT;rw [e1,e2,decide_eq_false e3];simp
    subst FF
    go_wp2_with fail
    go_ret
    exact ⟨rfl,B2.out⟩
theorem same_any:∀ {t:Tr},Nw t→∀ u,SmC t u:=by
 intro t h
 induction h with
 | nd o m k n p ks hl hk ih =>
  intro u
  cases u with
  | nd o' m' k' n' p' us=>exact same_nd o m o' m' k k' n n' p p' ks us hl (fun t ht u _=>ih t ht u)
end Go.Proofs.YtbeahnehjannpaaDoor
