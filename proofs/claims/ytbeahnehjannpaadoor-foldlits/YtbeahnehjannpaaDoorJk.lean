/- Parts of the proof. -/
import Derived.Test.YtbeahnehjannpaaDoorJj
import Derived.Test.YtbeahnehjannpaaDoorKK
namespace Go.Proofs.YtbeahnehjannpaaDoor
open Go.RowKit
set_option linter.unusedVariables false
set_option linter.unusedSimpArgs false
theorem opF_bd {op:ByteArray} {k n j m:Int} (h:(opF op k n j m).2.2=0):BdN (opF op k n j m).2.1:=by
 unfold opF at h ⊢
 split at h
 ·cases h
 split at h
 ·cases h
 split at h
 ·split at h <;> cases h
 ·rename_i h1 h2 h3
  rw [if_neg h1,if_neg h2,if_neg h3]
  dsimp only
  simp only [Bool.or_eq_true,not_or,Bool.not_eq_true,Bool.not_eq_false'] at h3
  have hw:=h3.2
  generalize (numF op k n j m).1=N at *
  generalize outF op k j=D at *
  unfold wthF at hw
  unfold BdN
  split at hw
  ·simp at hw;omega
  split at hw
  ·simp at hw;omega
  split at hw
  ·simp at hw;omega
  split at hw
  ·simp at hw;omega
  ·cases hw
theorem reckE_bd {e a b:Tr} (h:BdN e.n):BdN (reckE e a b).n:=by
 unfold reckE
 split
 ·rename_i q;exact opF_bd q
 ·exact h
theorem stpE_bd {e:Tr} (h:BdN e.n) (hk:∀ k,k ∈ e.kids→BdN k.n):BdN (stpE e).n:=by
 unfold stpE
 split
 ·split
  ·exact reckE_bd h
  ·exact h
 ·rename_i a b q
  rw [q] at hk
  split
  ·split
   ·exact reckE_bd h
   ·exact h
  ·split
   ·split
    ·exact hk a (by simp)
    ·exact hk b (by simp)
   ·exact h
 ·rename_i a b c q
  rw [q] at hk
  split
  ·split
   ·exact hk b (by simp)
   ·exact hk c (by simp)
  ·exact h
 ·exact h
theorem len1 {α:Type} {l:List α} (h:l.length=1):∃ x,l=[x]:=by
 match l,h with
 | [x],_=>exact ⟨x,rfl⟩
theorem len2 {α:Type} {l:List α} (h:l.length=2):∃ x y,l=[x,y]:=by
 match l,h with
 | [x,y],_=>exact ⟨x,y,rfl⟩
theorem len3 {α:Type} {l:List α} (h:l.length=3):∃ x y z,l=[x,y,z]:=by
 match l,h with
 | [x,y,z],_=>exact ⟨x,y,z,rfl⟩
def shB (op:ByteArray) (l:Nat):Bool:=if un2 op then l==1 else if bin12 op || con2 op then l==2 else if eqB op ⟨#[105,102]⟩ then l==3 else decide (l≤2)
inductive GX:Tr→Prop
 | mk (op nm:ByteArray) (kd:Nat) (n:Int) (pl:Nat) (ts:List Tr) (hn:BdN n) (hs:shB op ts.length=true) (hk:∀ k,k ∈ ts→GX k):GX (.nd op nm kd n pl ts)
theorem expr_any {t:Tr} (g:GX t):ExC t∧BdN (fdE t).n:=by
 induction g with
 | mk op nm kd n pl ts hn hs hk ih =>
  have bd:BdN (fdE (.nd op nm kd n pl ts)).n:=by
   rw [fdE,fdL_map]
   refine stpE_bd hn fun k h=>?_
   obtain ⟨x,hx,rfl⟩:=List.mem_map.1 h
   exact (ih x hx).2
  refine ⟨?_,bd⟩
  have IE:=fun k h=>(ih k h).1
  have IB:=fun k h=>(ih k h).2
  unfold shB at hs
  cases q1:un2 op with
  | true =>
   rw [q1,if_pos rfl] at hs
   have hl:ts.length=1:=by simpa using hs
   obtain ⟨x,rfl⟩:=len1 hl
   unfold un2 at q1
   simp only [Bool.or_eq_true] at q1
   exact ex_un op (q1.imp eqB_eq eqB_eq) nm kd n pl x IB IE
  | false =>
   rw [q1,if_neg (by simp)] at hs
   cases q2:bin12 op with
   | true =>
    rw [q2] at hs
    simp only [Bool.true_or,if_true] at hs
    have hl:ts.length=2:=by simpa using hs
    obtain ⟨x,y,rfl⟩:=len2 hl
    unfold bin12 at q2
    simp only [Bool.or_eq_true] at q2
    refine ex_bin op ?_ nm kd n pl x y IB IE
    simp only [ops12b,List.mem_cons,List.not_mem_nil,or_false]
    rcases q2 with ((((((((((h | h) | h) | h) | h) | h) | h) | h) | h) | h) | h) | h <;> simp [eqB_eq h]
   | false =>
    cases q3:con2 op with
    | true =>
     rw [q2,q3] at hs
     simp only [Bool.false_or,if_true] at hs
     have hl:ts.length=2:=by simpa using hs
     obtain ⟨x,y,rfl⟩:=len2 hl
     unfold con2 at q3
     simp only [Bool.or_eq_true] at q3
     rcases q3 with h | h
     ·rw [eqB_eq h] at *
      exact ex_and nm kd n pl x y IB IE
     ·rw [eqB_eq h] at *
      exact ex_or nm kd n pl x y IB IE
    | false =>
     rw [q2,q3] at hs
     simp only [Bool.false_or,Bool.false_eq_true,if_false] at hs
     cases q4:eqB op ⟨#[105,102]⟩ with
     | true =>
      rw [q4,if_pos rfl] at hs
      have hl:ts.length=3:=by simpa using hs
      obtain ⟨x,y,z,rfl⟩:=len3 hl
      rw [eqB_eq q4] at *
      exact ex_if nm kd n pl x y z IB IE
     | false =>
      rw [q4,if_neg (by simp)] at hs
      have hl:ts.length≤2:=by simpa using hs
      unfold un2 at q1
      unfold bin12 at q2
      unfold con2 at q3
      simp only [Bool.or_eq_false_iff] at q1 q2 q3
      have ho:=And.intro q1.1 (And.intro q1.2 (And.intro q2.1.1.1.1.1.1.1.1.1.1.1 (And.intro q2.1.1.1.1.1.1.1.1.1.1.2 (And.intro q2.1.1.1.1.1.1.1.1.1.2 (And.intro q2.1.1.1.1.1.1.1.1.2 (And.intro q2.1.1.1.1.1.1.1.2 (And.intro q2.1.1.1.1.1.1.2 (And.intro q2.1.1.1.1.1.2 (And.intro q2.1.1.1.1.2 (And.intro q2.1.1.1.2 (And.intro q2.1.1.2 (And.intro q2.1.2 (And.intro q2.2 (And.intro q3.1 (And.intro q3.2 q4)))))))))))))))
      match ts,hl,IB,IE with
      | [],_,IB,IE=>exact ex_o0 op ho nm kd n pl IB IE
      | [x],_,IB,IE=>exact ex_o1 op ho nm kd n pl x IB IE
      | [x,y],_,IB,IE=>exact ex_o2 op ho nm kd n pl x y IB IE
      | x :: y :: z :: l,hl,_,_=>simp at hl
def bdB (n:Int):Bool:=decide (-9007199254740992≤n∧n≤9007199254740992)
mutual
def gxB:Tr→Bool
 | .nd op _ _ n _ ts=>bdB n && shB op ts.length && gxL ts
def gxL:List Tr→Bool
 | []=>true
 | t :: ts=>gxB t && gxL ts
end
mutual
theorem gx_ok:∀ t:Tr,gxB t=true→GX t
 | .nd op nm kd n pl ts,h=>by
  rw [gxB] at h
  simp only [Bool.and_eq_true] at h
  exact .mk op nm kd n pl ts (by have:=h.1.1;unfold bdB at this;unfold BdN;simpa using this) h.1.2 (gxL_ok ts h.2)
theorem gxL_ok:∀ ts:List Tr,gxL ts=true→∀ k,k ∈ ts→GX k
 | [],_,k,hk=>by simp at hk
 | t :: ts,h,k,hk=>by
  rw [gxL] at h
  simp only [Bool.and_eq_true] at h
  rcases List.mem_cons.1 hk with e | hk
  ·rw [e];exact gx_ok t h.1
  ·exact gxL_ok ts h.2 k hk
end
def DcC (d:Tr):Prop:=∀ (S:Nat→Prop) (w:World) (v:Value),TabU w→Nv w S v d→Calls Tryd.prog 17 #[v] w fun e w'=>FdP (fdD d) w e w'
set_option maxRecDepth 100000 in
set_option maxHeartbeats 8000000 in
theorem decl_rule (op nm:ByteArray) (kd:Nat) (n:Int) (pl:Nat) (ts:List Tr) (ho:eqB op ⟨#[114,117,108,101]⟩=true) (hl:ts.length≤10000) (ih:∀ k,k ∈ ts→ExC k):DcC (.nd op nm kd n pl ts):=by
 intro S w v hT hv
 obtain ⟨se,rfl,hd⟩:=hv
 obtain ⟨sa,sc,rfl⟩:=hd.len2
 replace hd:Nd w S (.slice sa ts.length sc) ts:=hd
 rw [show fdD (.nd op nm kd n pl ts)=.nd op nm kd n pl (ts.map fdE) from if_pos ho]
 have z1:(op.toList==[114,117,108,101])=true:=(eqL _ _).trans ho
 clear ho
 show Calls _ _ #[.agg #[.string op,.string nm,.int .i64 (kd:Nat),.int .i64 n,.int .i64 (pl:Nat),.slice sa ts.length sc]] _ _
 have sz1:(w.alloc (.cells #[.string op,.string nm,.int .i64 (kd:Nat),.int .i64 n,.int .i64 (pl:Nat),.slice sa ts.length sc] 28)).heap.size=w.heap.size+1:=by simp
 have A1:=hid (show Below w.heap.size w ((w.alloc (.cells #[.string op,.string nm,.int .i64 (kd:Nat),.int .i64 n,.int .i64 (pl:Nat),.slice sa ts.length sc] 28)).alloc (.cells #[.string ⟨#[]⟩,.string ⟨#[]⟩,.int .i64 0,.int .i64 0,.int .i64 0,.slice none 0 0] 28)) from ((Below.refl _ _).alloc (Nat.le_refl _) _).alloc (by simp) _)
 have X1:=hid (show B6 ((w.alloc (.cells #[.string op,.string nm,.int .i64 (kd:Nat),.int .i64 n,.int .i64 (pl:Nat),.slice sa ts.length sc] 28)).alloc (.cells #[.string ⟨#[]⟩,.string ⟨#[]⟩,.int .i64 0,.int .i64 0,.int .i64 0,.slice none 0 0] 28)) w.heap.size (.string op) (.string nm) (.int .i64 (kd:Nat)) (.int .i64 n) (.int .i64 (pl:Nat)) (.slice sa ts.length sc) from by
  have h:=(B6.new w 28 (.string op) (.string nm) (.int .i64 (kd:Nat)) (.int .i64 n) (.int .i64 (pl:Nat)) (.slice sa ts.length sc)).next ((Below.refl _ _).alloc (Nat.le_refl _) (.cells #[.string ⟨#[]⟩,.string ⟨#[]⟩,.int .i64 0,.int .i64 0,.int .i64 0,.slice none 0 0] 28))
  exact h)
 have X2:=hid (show B6 ((w.alloc (.cells #[.string op,.string nm,.int .i64 (kd:Nat),.int .i64 n,.int .i64 (pl:Nat),.slice sa ts.length sc] 28)).alloc (.cells #[.string ⟨#[]⟩,.string ⟨#[]⟩,.int .i64 0,.int .i64 0,.int .i64 0,.slice none 0 0] 28)) (w.heap.size+1) (.string ⟨#[]⟩) (.string ⟨#[]⟩) (.int .i64 0) (.int .i64 0) (.int .i64 0) (.slice none 0 0) from by
  have h:=B6.new (w.alloc (.cells #[.string op,.string nm,.int .i64 (kd:Nat),.int .i64 n,.int .i64 (pl:Nat),.slice sa ts.length sc] 28)) 28 (.string ⟨#[]⟩) (.string ⟨#[]⟩) (.int .i64 0) (.int .i64 0) (.int .i64 0) (.slice none 0 0)
  rw [sz1] at h
  exact h)
 clear sz1
 have HD1:=hid (hd.any A1.out)
 have T1:=hid (hT.next A1.out)
 have KE:=hid (fun W hT hW=>each_fold_Expr fdE ts S W (.slice sa ts.length sc) hW hl hT (fun k hk w1 v1 hT1 hv1=>ih k hk S w1 v1 hT1 hv1))
 have TG:=hid (show 0<w.heap.size from hT.1)
 clear hd hT ih
 go_enter Tryd.func17,Tryd.ntmps17
 go_upto_region 1 with fail
 generalize World.alloc (World.alloc w _) _=w1 at *
 have P3:=hid (show w.heap.size≤w.heap.size+1 by omega)
 have PX:=hid (show w.heap.size≠w.heap.size+1 by omega)
 have P2L:=hid X2.out.lt
 have P1L:=hid X1.out.lt
 generalize w.heap.size+1=p2 at *
 obtain ⟨c0,c1,c2,c3,c4,c5,cf⟩:=X1.out
 go_upto_region 3 with (go_at_call 16;with_reducible refine Calls.mono (KE.out _ T1.out HD1.out) ?_;rintro e9 w2 ⟨v2,rfl,nq,b2⟩;have B2:=hid b2;obtain ⟨ta,tm,tc,ev⟩:=nq.slice;subst ev;have ND2:=hid nq;clear nq b2 c0 c1 c2 c3 c4 c5 cf;obtain ⟨c0,c1,c2,c3,c4,c5,cf⟩:=X1.out.next B2.out)
 clear c0 c1 c2 c3 c4 c5 cf KE
 have HK:=hid (show ∀ g,w1.heap.size≤g→(w2.setCell ⟨w.heap.size,5,none⟩ (.slice ta tm tc)).heap[g]?=w2.heap[g]? from fun g hg=>Below.heap_setCell w2 ⟨w.heap.size,5,none⟩ (.slice ta tm tc) g (by have:=P1L.out;show g≠w.heap.size;omega))
 have Y3:=hid ((X1.out.next B2.out).set5 (.slice ta tm tc))
 have R3:=hid ((X2.out.next B2.out).put (q:=w.heap.size) (i:=5) (by have:=PX.out;omega) (.slice ta tm tc))
 have A3:=hid ((nextB A1.out B2.out).setCell (p:=⟨w.heap.size,5,none⟩) (Nat.le_refl _) (.slice ta tm tc))
 have HR:=hid (ND2.out.keep (w':=w2.setCell ⟨w.heap.size,5,none⟩ (.slice ta tm tc)) (S':=fun g=>w1.heap.size≤g) fun g s l=>⟨s,HK.out g s⟩)
 clear X1 X2 A1 T1 HD1 B2 ND2 HK
 generalize World.setCell w2 _ _=w3 at *
 have S9:=hid (R3.out.sets (.string op) (.string nm) (.int .i64 (kd:Nat)) (.int .i64 n) (.int .i64 (pl:Nat)) (.slice ta tm tc))
 have BF:=hid (Below.put6X A3.out (q:=p2) P3.out (.string op) (.string nm) (.int .i64 (kd:Nat)) (.int .i64 n) (.int .i64 (pl:Nat)) (.slice ta tm tc))
 have NF:=hid (HR.out.keep (S':=fun g=>w.heap.size≤g) fun g s l=>⟨by have:=P1L.out;have:w1.heap.size≤g:=s;omega,heap6 _ p2 (.string op) (.string nm) (.int .i64 (kd:Nat)) (.int .i64 n) (.int .i64 (pl:Nat)) (.slice ta tm tc) g (by have:=P2L.out;have:w1.heap.size≤g:=s;omega)⟩)
 obtain ⟨c0,c1,c2,c3,c4,c5,cf⟩:=Y3.out
 obtain ⟨z0,z1,z2,z3,z4,z5,zf⟩:=R3.out
 go_wp2_with fail
 clear c0 c1 c2 c3 c4 c5 cf z0 z1 z2 z3 z4 z5 zf
 generalize World.setCell _ ⟨p2,5,none⟩ _=wf at *
 obtain ⟨f0,f1,f2,f3,f4,f5,_⟩:=S9.out
 try simp only [Exit.inBlock,Exit.then]
 refine bodyPost_ret (v:=.agg #[.string op,.string nm,.int .i64 (kd:Nat),.int .i64 n,.int .i64 (pl:Nat),.slice ta tm tc]) (by simp [results,Tryd.results17,go_sem,f0,f1,f2,f3,f4,f5]) rfl ?_
 exact ⟨_,rfl,⟨_,rfl,NF.out⟩,BF.out⟩
set_option maxRecDepth 100000 in
set_option maxHeartbeats 8000000 in
theorem fold_any (op nm:ByteArray) (kd:Nat) (n:Int) (pl:Nat) (ts:List Tr) (hl:ts.length≤10000) (ih:∀ k,k ∈ ts→DcC k) :
  ∀ (S:Nat→Prop) (w:World) (v:Value),TabU w→Nv w S v (.nd op nm kd n pl ts)→Calls Tryd.prog 7 #[v] w fun e w'=>FdP (fdS (.nd op nm kd n pl ts)) w e w':=by
 intro S w v hT hv
 obtain ⟨se,rfl,hd⟩:=hv
 obtain ⟨sa,sc,rfl⟩:=hd.len2
 replace hd:Nd w S (.slice sa ts.length sc) ts:=hd
 rw [show fdS (.nd op nm kd n pl ts)=.nd op nm kd n pl (ts.map fdD) from rfl]
 show Calls _ _ #[.agg #[.string op,.string nm,.int .i64 (kd:Nat),.int .i64 n,.int .i64 (pl:Nat),.slice sa ts.length sc]] _ _
 have sz1:(w.alloc (.cells #[.string op,.string nm,.int .i64 (kd:Nat),.int .i64 n,.int .i64 (pl:Nat),.slice sa ts.length sc] 28)).heap.size=w.heap.size+1:=by simp
 have A1:=hid (show Below w.heap.size w ((w.alloc (.cells #[.string op,.string nm,.int .i64 (kd:Nat),.int .i64 n,.int .i64 (pl:Nat),.slice sa ts.length sc] 28)).alloc (.cells #[.string ⟨#[]⟩,.string ⟨#[]⟩,.int .i64 0,.int .i64 0,.int .i64 0,.slice none 0 0] 28)) from ((Below.refl _ _).alloc (Nat.le_refl _) _).alloc (by simp) _)
 have X1:=hid (show B6 ((w.alloc (.cells #[.string op,.string nm,.int .i64 (kd:Nat),.int .i64 n,.int .i64 (pl:Nat),.slice sa ts.length sc] 28)).alloc (.cells #[.string ⟨#[]⟩,.string ⟨#[]⟩,.int .i64 0,.int .i64 0,.int .i64 0,.slice none 0 0] 28)) w.heap.size (.string op) (.string nm) (.int .i64 (kd:Nat)) (.int .i64 n) (.int .i64 (pl:Nat)) (.slice sa ts.length sc) from by
  have h:=(B6.new w 28 (.string op) (.string nm) (.int .i64 (kd:Nat)) (.int .i64 n) (.int .i64 (pl:Nat)) (.slice sa ts.length sc)).next ((Below.refl _ _).alloc (Nat.le_refl _) (.cells #[.string ⟨#[]⟩,.string ⟨#[]⟩,.int .i64 0,.int .i64 0,.int .i64 0,.slice none 0 0] 28))
  exact h)
 have X2:=hid (show B6 ((w.alloc (.cells #[.string op,.string nm,.int .i64 (kd:Nat),.int .i64 n,.int .i64 (pl:Nat),.slice sa ts.length sc] 28)).alloc (.cells #[.string ⟨#[]⟩,.string ⟨#[]⟩,.int .i64 0,.int .i64 0,.int .i64 0,.slice none 0 0] 28)) (w.heap.size+1) (.string ⟨#[]⟩) (.string ⟨#[]⟩) (.int .i64 0) (.int .i64 0) (.int .i64 0) (.slice none 0 0) from by
  have h:=B6.new (w.alloc (.cells #[.string op,.string nm,.int .i64 (kd:Nat),.int .i64 n,.int .i64 (pl:Nat),.slice sa ts.length sc] 28)) 28 (.string ⟨#[]⟩) (.string ⟨#[]⟩) (.int .i64 0) (.int .i64 0) (.int .i64 0) (.slice none 0 0)
  rw [sz1] at h
  exact h)
 clear sz1
 have HD1:=hid (hd.any A1.out)
 have T1:=hid (hT.next A1.out)
 have KE:=hid (fun W hT hW=>each_fold_decl fdD ts S W (.slice sa ts.length sc) hW hl hT (fun k hk w1 v1 hT1 hv1=>ih k hk S w1 v1 hT1 hv1))
 have TG:=hid (show 0<w.heap.size from hT.1)
 clear hd hT ih
 go_enter Tryd.func7,Tryd.ntmps7
 go_upto_region 1 with fail
 generalize World.alloc (World.alloc w _) _=w1 at *
 have P3:=hid (show w.heap.size≤w.heap.size+1 by omega)
 have PX:=hid (show w.heap.size≠w.heap.size+1 by omega)
 have P2L:=hid X2.out.lt
 have P1L:=hid X1.out.lt
 generalize w.heap.size+1=p2 at *
 obtain ⟨c0,c1,c2,c3,c4,c5,cf⟩:=X1.out
 go_upto_region 2 with (go_at_call 16;with_reducible refine Calls.mono (KE.out _ T1.out HD1.out) ?_;rintro e9 w2 ⟨v2,rfl,nq,b2⟩;have B2:=hid b2;obtain ⟨ta,tm,tc,ev⟩:=nq.slice;subst ev;have ND2:=hid nq;clear nq b2 c0 c1 c2 c3 c4 c5 cf;obtain ⟨c0,c1,c2,c3,c4,c5,cf⟩:=X1.out.next B2.out)
 clear c0 c1 c2 c3 c4 c5 cf KE
 have HK:=hid (show ∀ g,w1.heap.size≤g→(w2.setCell ⟨w.heap.size,5,none⟩ (.slice ta tm tc)).heap[g]?=w2.heap[g]? from fun g hg=>Below.heap_setCell w2 ⟨w.heap.size,5,none⟩ (.slice ta tm tc) g (by have:=P1L.out;show g≠w.heap.size;omega))
 have Y3:=hid ((X1.out.next B2.out).set5 (.slice ta tm tc))
 have R3:=hid ((X2.out.next B2.out).put (q:=w.heap.size) (i:=5) (by have:=PX.out;omega) (.slice ta tm tc))
 have A3:=hid ((nextB A1.out B2.out).setCell (p:=⟨w.heap.size,5,none⟩) (Nat.le_refl _) (.slice ta tm tc))
 have HR:=hid (ND2.out.keep (w':=w2.setCell ⟨w.heap.size,5,none⟩ (.slice ta tm tc)) (S':=fun g=>w1.heap.size≤g) fun g s l=>⟨s,HK.out g s⟩)
 clear X1 X2 A1 T1 HD1 B2 ND2 HK
 generalize World.setCell w2 _ _=w3 at *
 have S9:=hid (R3.out.sets (.string op) (.string nm) (.int .i64 (kd:Nat)) (.int .i64 n) (.int .i64 (pl:Nat)) (.slice ta tm tc))
 have BF:=hid (Below.put6X A3.out (q:=p2) P3.out (.string op) (.string nm) (.int .i64 (kd:Nat)) (.int .i64 n) (.int .i64 (pl:Nat)) (.slice ta tm tc))
 have NF:=hid (HR.out.keep (S':=fun g=>w.heap.size≤g) fun g s l=>⟨by have:=P1L.out;have:w1.heap.size≤g:=s;omega,heap6 _ p2 (.string op) (.string nm) (.int .i64 (kd:Nat)) (.int .i64 n) (.int .i64 (pl:Nat)) (.slice ta tm tc) g (by have:=P2L.out;have:w1.heap.size≤g:=s;omega)⟩)
 obtain ⟨c0,c1,c2,c3,c4,c5,cf⟩:=Y3.out
 obtain ⟨z0,z1,z2,z3,z4,z5,zf⟩:=R3.out
 go_wp2_with fail
 clear c0 c1 c2 c3 c4 c5 cf z0 z1 z2 z3 z4 z5 zf
 generalize World.setCell _ ⟨p2,5,none⟩ _=wf at *
 obtain ⟨f0,f1,f2,f3,f4,f5,_⟩:=S9.out
 try simp only [Exit.inBlock,Exit.then]
 refine bodyPost_ret (v:=.agg #[.string op,.string nm,.int .i64 (kd:Nat),.int .i64 n,.int .i64 (pl:Nat),.slice ta tm tc]) (by simp [results,Tryd.results7,go_sem,f0,f1,f2,f3,f4,f5]) rfl ?_
 exact ⟨_,rfl,⟨_,rfl,NF.out⟩,BF.out⟩
theorem szL_take:∀ (ts:List Tr) (i:Nat) (t:Tr),ts[i]?=some t→szL (ts.take (i+1))=szL (ts.take i)+szT t
 | [],i,t,h=>by simp at h
 | x :: ts,0,t,h=>by
  simp at h
  subst h
  simp [szL]
 | x :: ts,i+1,t,h=>by
  rw [List.take_succ_cons,List.take_succ_cons,szL,szL,szL_take ts i t (by simpa using h)]
  omega
theorem szL_le:∀ (ts:List Tr) (i:Nat),szL (ts.take i)≤szL ts
 | [],i=>by simp
 | x :: ts,0=>by simp [szL]
 | x :: ts,i+1=>by
  rw [List.take_succ_cons,szL,szL]
  have:=szL_le ts i
  omega
def SzC (t:Tr):Prop:=∀ (S:Nat→Prop) (w:World) (v:Value),szT t≤1000000→Nv w S v t→Calls Tryd.prog 9 #[v] w fun e w'=>e=.returned (.int .i64 (szT t:Nat))∧Below w.heap.size w w'
set_option maxRecDepth 100000 in
set_option maxHeartbeats 8000000 in
theorem size_step (op nm:ByteArray) (kd:Nat) (n:Int) (pl:Nat) (ts:List Tr) (hl:ts.length≤10000) (ih:∀ k,k ∈ ts→SzC k):SzC (.nd op nm kd n pl ts):=by
 intro S w v hz hv
 obtain ⟨se,rfl,hd⟩:=hv
 obtain ⟨sa,sc,rfl⟩:=hd.len2
 replace hd:Nd w S (.slice sa ts.length sc) ts:=hd
 show Calls _ _ #[.agg #[.string op,.string nm,.int .i64 (kd:Nat),.int .i64 n,.int .i64 (pl:Nat),.slice sa ts.length sc]] _ _
 rw [szT] at hz
 rw [show szT (.nd op nm kd n pl ts)=1+szL ts from by rw [szT]]
 have A1:=hid (show Below w.heap.size w (w.alloc (.cells #[.string op,.string nm,.int .i64 (kd:Nat),.int .i64 n,.int .i64 (pl:Nat),.slice sa ts.length sc] 28)) from (Below.refl _ _).alloc (Nat.le_refl _) _)
 have X1:=hid (B6.new w 28 (.string op) (.string nm) (.int .i64 (kd:Nat)) (.int .i64 n) (.int .i64 (pl:Nat)) (.slice sa ts.length sc))
 have HD:=hid hd
 have IH:=hid ih
 have HZ:=hid hz
 have l1:(ts.length:Int)≤10000:=by omega
 clear hd ih hz hl
 go_enter Tryd.func9,Tryd.ntmps9
 go_upto_region 1 with fail
 have HD1:=hid (HD.out.any A1.out)
 generalize World.alloc w _=w1 at *
 obtain ⟨c0,c1,c2,c3,c4,c5,_⟩:=X1.out
 go_upto_region 3 with fail
 clear c0 c1 c2 c3 c4 c5 X1 HD
 go_loopg [9,3,5] (ts.length) (fun gg iv sv bv wr=>∃ i:Nat,i≤ts.length∧gg=ts.length - i∧iv=.int .i64 (i:Nat)∧∃ u:Int,sv=.int .i64 u∧Hid (u=((1+szL (ts.take i):Nat):Int))∧Hid (Below w1.heap.size w1 wr))
 case atStart=>exact ⟨0,Nat.zero_le _,rfl,rfl,1,rfl,rfl,Below.refl _ _⟩
 case round =>
  obtain ⟨i,hi,rfl,rfl,u1,rfl,UE,BR⟩:=hrel
  by_cases q:i<ts.length
  ·have q':(i:Int)<(ts.length:Int):=by omega
   obtain ⟨t,ht⟩:∃ t,ts[i]?=some t:=⟨_,List.getElem?_eq_getElem q⟩
   have HR:=hid (HD1.out.any BR.out)
   obtain ⟨g,c,sl,ev,hc,hk⟩:=HR.out.at2 (fun e=>by rw [e] at q;simp at q)
   injection ev with e1 e2 e3
   subst e1 e3
   have ND1:=hid (hk i t ht)
   obtain ⟨ta,tm,tc,hsl⟩:=ND1.out.slice
   have NC1:=hid (hc i t ht)
   rw [hsl] at ND1 NC1
   obtain ⟨k0,k1,k2,k3,k4,k5⟩:=NC1.out
   have BL1:=hid (show Below wr.heap.size wr (wr.alloc (.cells #[.string t.op,.string t.name,.int .i64 (t.kind:Nat),.int .i64 t.n,.int .i64 (t.pl:Nat),.slice ta tm tc] 28)) from (Below.refl _ _).alloc (Nat.le_refl _) _)
   have X2:=hid (B6.new wr 28 (.string t.op) (.string t.name) (.int .i64 (t.kind:Nat)) (.int .i64 t.n) (.int .i64 (t.pl:Nat)) (.slice ta tm tc))
   have N1:=hid (show Nv (wr.alloc (.cells #[.string t.op,.string t.name,.int .i64 (t.kind:Nat),.int .i64 t.n,.int .i64 (t.pl:Nat),.slice ta tm tc] 28)) S (.agg #[.string t.op,.string t.name,.int .i64 (t.kind:Nat),.int .i64 t.n,.int .i64 (t.pl:Nat),.slice ta tm tc]) t from ⟨_,rfl,ND1.out.any BL1.out⟩)
   have SQ:=hid (szL_take ts i t ht)
   have SL1:=hid (szL_le ts (i+1))
   have CA:=hid (IH.out t (List.mem_of_getElem? ht) S _ _ (by have:=SQ.out;have:=SL1.out;have:=HZ.out;omega) N1.out)
   have BN:=hid (nextB BR.out BL1.out)
   obtain ⟨u2,hu2⟩:∃ u2:Int,u2=((1+szL (ts.take (i+1)):Nat):Int):=⟨_,rfl⟩
   have W1:wrap64 (u1+((szT t:Nat):Int))=u2:=by
    have h1:=SQ.out;have h2:=SL1.out;have h3:=HZ.out;have h4:=UE.out
    unfold wrap64
    omega
   have U2:=hid hu2
   clear hu2
   clear ht hsl hc hk ND1 NC1 HR
   go_upto_region 5 with fail
   clear k0 k1 k2 k3 k4 k5
   generalize World.alloc wr _=w2 at *
   generalize wr.heap.size=q1 at *
   obtain ⟨p0,p1,p2,p3,p4,p5,_⟩:=X2.out
   go_wp2_with (go_at_call 9;with_reducible refine Calls.mono CA.out ?_;rintro e9 w3 ⟨rfl,b3⟩;have BM:=hid (nextB BN.out b3);clear b3)
   go_roundg (ts.length - (i+1))
   case measure=>omega
   case rel=>exact ⟨i+1,by omega,rfl,by rw [Int.natCast_add];rfl,u2,congrArg (Value.int .i64) W1,U2,BM⟩
  ·have q':¬ (i:Int)<(ts.length:Int):=by omega
   have e:i=ts.length:=by omega
   subst e
   go_wp2_with fail
   go_returns
   have UF:u1=((1+szL ts:Nat):Int):=by have:=UE.out;rw [List.take_length] at this;exact this
   exact ⟨by show Ending.returned (Value.int .i64 u1)=_;rw [UF,Int.natCast_add];rfl,nextB A1.out BR.out⟩
theorem size_any {t:Tr} (g:Sz t):SzC t:=by
 induction g with
 | mk t h hk ih =>
  obtain ⟨op,nm,kd,n,pl,ts⟩:=t
  exact size_step op nm kd n pl ts h ih
end Go.Proofs.YtbeahnehjannpaaDoor
