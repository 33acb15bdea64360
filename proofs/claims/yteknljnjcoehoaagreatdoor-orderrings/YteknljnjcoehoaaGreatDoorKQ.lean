/- Parts of the proof. -/
import Derived.Test.YteknljnjcoehoaaGreatDoorKP
import Derived.BigQuiet
import Derived.Deep.RegionHeld3
namespace Go.Proofs.YteknljnjcoehoaaGreatDoor
open Go.RowKit
set_option linter.unusedVariables false
set_option linter.unusedSimpArgs false
theorem Gt2.bel0 {w w':World} {b p:Nat} (h:Gt2 w w' b p) {B:Nat} (hB:B≤w.heap.size) (h1:B≤b) (h2:B≤p):Below B w w' :=
 ⟨h.os,h.tape,h.output,h.size,fun i hi=>h.block i (by omega) (by omega) (by omega)⟩
theorem own_slice {w:World} {base:Nat} {e:TypeId} {k:Nat} {v:Value} {n:Nat} {xs:List Value} (h:w.ownsRow base e k v n xs):∃ a c,v=.slice a n c:=by
 rcases h.2 with ⟨h1,h2⟩ | ⟨g,cap,cur,hv,_⟩
 ·exact ⟨none,0,by rw [h1,h2]⟩
 ·exact ⟨_,_,hv⟩
theorem own_keep {w w':World} {base:Nat} {t:TypeId} {k:Nat} {v:Value} {n:Nat} {xs:List Value} (h:w.ownsRow base t k v n xs) (ko:∀ g,base≤g→g<w.heap.size→w'.heap[g]?=w.heap[g]?):w'.ownsRow base t k v n xs:=by
 refine ⟨h.1,?_⟩
 rcases h.2 with hn | ⟨g,cap,cur,hv,hg,hb,rest⟩
 ·exact .inl hn
 ·exact .inr ⟨g,cap,cur,hv,hg,by rw [ko g hg (Array.getElem?_eq_some_iff.1 hb).1];exact hb,rest⟩
def fdC (l:List (ByteArray × Nat)):List Value:=l.flatMap fun x=>[.string x.1,.int .i64 (x.2:Nat)]
theorem fieldInfo:(Tryz.prog.info? 126).map (fun i=>(i.zero,i.size,i.bytes))=some (some (.agg #[.string ⟨#[]⟩,.int .i64 0]),2,24):=by kernel_rfl
theorem wpList_addF {w:World} {ops:Array Oper} {rest:List Oper} {o:Oper} {a:Act} {Q:Exit→Act→World→Prop} (hgd:o.guard=none) (sl x:Operand)
  (ho:o.op=.call { callee:=.builtin .append,args:=#[sl,x],argTypes:=#[124,124] }) (B:Nat) (v:Value) (l:List (ByteArray × Nat)) (f:ByteArray × Nat) (hs:a.eval sl=v) (hown:w.ownsRow B 126 2 v l.length (fdC l)) (g:Nat) (hx:a.eval x=.slice (some ⟨g,0,none⟩) 1 1) (hc:w.cell? ⟨g,0,none⟩=some (.string f.1)) (hc1:w.cell? ⟨g,1,none⟩=some (.int .i64 (f.2:Nat))) (hl:l.length≤100000) (hB:B≤w.heap.size)
  (h:∀ v' w',w'.ownsRow B 126 2 v' (l ++ [f]).length (fdC (l ++ [f]))→w.grownBy w' v.ownBlock→wpList Tryz.prog ops Q rest (a.put o.dst v') w'):wpList Tryz.prog ops Q (o :: rest) a w:=by
 obtain ⟨i0,hi,hz0,hz1,hz2⟩:=info_parts fieldInfo
 refine wpList_append_own w hgd sl x 124 ho B 126 i0 _ 2 24 Tryz.underlying124 hi hz0 hz1 hz2 rfl (by decide) v l.length (fdC l) hs hown ⟨g,0,none⟩ 1 1 [.string f.1,.int .i64 (f.2:Nat)] hx rfl (fun j u hu=>?_) (fun u hu=>?_) (by unfold maxLen;omega) (by omega) hB (fun v' w' h2 h3 _=>?_)
 ·match j,hu with
  | 0,hu=>simp at hu;subst hu;simpa [Addr.add] using hc
  | 1,hu=>simp at hu;subst hu;simpa [Addr.add] using hc1
  | j+2,hu=>simp at hu
 ·simp at hu;rcases hu with rfl | rfl <;> rfl
 ·refine h v' w' ?_ h3
  rw [List.length_append,show fdC (l ++ [f])=fdC l ++ [.string f.1,.int .i64 (f.2:Nat)] from by simp [fdC]]
  exact h2
structure RIn (w wr:World) (S:Nat→Prop) (sv:Value) (ks:List Tr) (ow:Prop):Prop where
 nd:Nd wr (fun g=>S g∧g<w.heap.size) sv ks
 bl:Below w.heap.size w wr
 ow:ow
theorem grB {a b c:World} {B:Nat} {row:Option Nat} (h:Below B a b) (k:b.grownBy c row) (hB:B≤b.heap.size) (hr:∀ i,row=some i→B≤i):Below B a c :=
 ⟨k.os.trans h.os,k.tape.trans h.tape,k.output.trans h.output,Nat.le_trans h.size k.size,fun i hi=>(k.block i (by omega) (fun e=>by have:=hr i e.symm;omega)).trans (h.block i hi)⟩
def fldF (op:ByteArray) (ks:List Tr):List (ByteArray × Nat):=(ks.filter (fun k=>eqB k.op op)).map fun k=>(k.name,k.kind)
def FsP (op:ByteArray) (ks:List Tr) (w:World) (e:Ending) (w':World):Prop:=∃ v,e=.returned v∧w'.ownsRow w.heap.size 126 2 v (fldF op ks).length (fdC (fldF op ks))∧Below w.heap.size w w'
theorem own_wide {w:World} {base base':Nat} {e:TypeId} {k:Nat} {v:Value} {n:Nat} {xs:List Value} (hb:base'≤base) (h:w.ownsRow base e k v n xs):w.ownsRow base' e k v n xs:=by
 refine ⟨h.1,?_⟩
 rcases h.2 with hn | ⟨g,cap,cur,hv,hg,hb',rest⟩
 ·exact .inl hn
 ·exact .inr ⟨g,cap,cur,hv,Nat.le_trans hb hg,hb',rest⟩
theorem fld_app (op:ByteArray) (ks:List Tr) (k:Tr):fldF op (ks ++ [k])=fldF op ks ++ (if eqB k.op op=true then [(k.name,k.kind)] else []):=by
 unfold fldF
 rw [List.filter_append,List.map_append]
 congr 1
 cases h:eqB k.op op <;> simp [List.filter,h]
set_option maxRecDepth 100000 in
set_option maxHeartbeats 8000000 in
theorem fields_any (t:Tr) (op:ByteArray) (S:Nat→Prop) (w:World) (v:Value) (hd:Nd w S v t.kids) (hl:t.kids.length≤10000) :
  Calls Tryz.prog 119 #[.agg #[.string t.op,.string t.name,.int .i64 (t.kind:Nat),.int .i64 t.n,.int .i64 (t.pl:Nat),v],.string op] w fun e w'=>FsP op t.kids w e w':=by
 obtain ⟨sa,sc,rfl⟩:=hd.lenY
 generalize t.kids=ks at *
 have B1:=hid (show Below w.heap.size w (w.alloc (.cells #[.string t.op,.string t.name,.int .i64 (t.kind:Nat),.int .i64 t.n,.int .i64 (t.pl:Nat),.slice sa ks.length sc] 26)) from (Below.refl _ _).alloc (Nat.le_refl _) _)
 have X1:=hid (B6.new w 26 (.string t.op) (.string t.name) (.int .i64 (t.kind:Nat)) (.int .i64 t.n) (.int .i64 (t.pl:Nat)) (.slice sa ks.length sc))
 have N1:=hid (hd.keep (S':=fun g=>S g∧g<w.heap.size) fun g s l=>⟨⟨s,l⟩,B1.out.block g l⟩)
 have KL:(ks.length:Int)≤10000:=by omega
 have KN:=hid hl
 clear hd hl
 go_enter Tryz.func119,Tryz.ntmps119
 go_upto_region 2 with fail
 generalize World.alloc w _=w1 at *
 have x5:=X1.out.c5
 go_upto_region 3 with fail
 clear x5
 go_loopg [11,5,7] (ks.length) (fun g iv rv bv wr=>∃ i:Nat,i≤ks.length∧g=ks.length - i∧iv=.int .i64 (i:Nat)∧Hid (RIn w wr S (.slice sa ks.length sc) ks (wr.ownsRow w.heap.size 126 2 rv (fldF op (ks.take i)).length (fdC (fldF op (ks.take i))))))
 case atStart=>exact ⟨0,Nat.zero_le _,rfl,rfl,N1.out,B1.out,World.ownsRow_nil _ _ _ _⟩
 case round =>
  rename_i rv bv _
  obtain ⟨i,hi,rfl,rfl,II⟩:=hrel
  by_cases qi:i<ks.length
  ·have qi':(i:Int)<(ks.length:Int):=by omega
   obtain ⟨k,hk⟩:∃ k,ks[i]?=some k:=⟨_,List.getElem?_eq_getElem qi⟩
   obtain ⟨g,c,s3,ea,nc,nk⟩:=II.out.nd.atY i k hk
   obtain ⟨ka,km,kc,rfl⟩:=nk.slice
   injection ea with ea _ ec
   subst ea ec
   have TK:=hid (show ks.take (i+1)=ks.take i ++ [k] from by
    obtain ⟨h1,h2⟩:=List.getElem?_eq_some_iff.1 hk
    rw [← h2,List.take_append_getElem])
   obtain ⟨n0,n1,n2,n3,n4,n5⟩:=nc
   clear nk hk
   have B3:=hid (show Below wr.heap.size wr (wr.alloc (.cells #[.string k.op,.string k.name,.int .i64 (k.kind:Nat),.int .i64 k.n,.int .i64 (k.pl:Nat),.slice ka km kc] 26)) from (Below.refl _ _).alloc (Nat.le_refl _) _)
   have X3:=hid (B6.new wr 26 (.string k.op) (.string k.name) (.int .i64 (k.kind:Nat)) (.int .i64 k.n) (.int .i64 (k.pl:Nat)) (.slice ka km kc))
   have O3:=hid (own_keep II.out.ow fun g hg l=>B3.out.block g l)
   have N3:=hid (II.out.nd.keep (S':=fun g=>S g∧g<w.heap.size) fun g s l=>⟨s,B3.out.block g l⟩)
   have A3:=hid (nextB II.out.bl B3.out)
   clear II
   obtain ⟨ra,rc,hrv⟩:=own_slice O3.out
   subst hrv
   go_upto_region 5 with fail
   clear n0 n1 n2 n3 n4 n5
   generalize World.alloc wr _=w3 at *
   generalize wr.heap.size=xb at *
   have c0:=X3.out.c0
   cases y1:eqB k.op op with
   | false =>
    have z1:(k.op.toList==op.toList)=false:=(eqB_is _ _).trans y1
    have E9:=hid (show fldF op (ks.take (i+1))=fldF op (ks.take i) from by rw [TK.out,fld_app,y1];simp)
    clear y1
    go_wp2_with fail
    go_roundg (ks.length - (i+1))
    case measure=>omega
    case rel=>exact ⟨i+1,by omega,rfl,by rw [Int.natCast_add];rfl,N3.out,A3.out,by rw [E9.out];exact O3.out⟩
   | true =>
    have z1:(k.op.toList==op.toList)=true:=(eqB_is _ _).trans y1
    have E9:=hid (show fldF op (ks.take (i+1))=fldF op (ks.take i) ++ [(k.name,k.kind)] from by rw [TK.out,fld_app,y1];simp)
    clear y1
    go_upto_region 6 with fail
    clear c0 z1
    have c1:=X3.out.c1
    have c2:=X3.out.c2
    have B5:=hid (show Below w3.heap.size w3 (w3.alloc (.cells #[.string k.name,.int .i64 (k.kind:Nat)] 126)) from (Below.refl _ _).alloc (Nat.le_refl _) _)
    have C5:=hid (show (w3.alloc (.cells #[.string k.name,.int .i64 (k.kind:Nat)] 126)).cell? ⟨w3.heap.size,0,none⟩=some (.string k.name) from by simp)
    have C6:=hid (show (w3.alloc (.cells #[.string k.name,.int .i64 (k.kind:Nat)] 126)).cell? ⟨w3.heap.size,1,none⟩=some (.int .i64 (k.kind:Nat)) from by simp)
    have O5:=hid (own_keep O3.out fun g hg l=>B5.out.block g l)
    have N5:=hid (N3.out.gwY B5.out)
    have A5:=hid (nextB A3.out B5.out)
    have OL:=hid (fun i e=>(O5.out.lt i e).1)
    have LL:=hid (show (fldF op (ks.take i)).length≤100000 from by unfold fldF;rw [List.length_map];exact Nat.le_trans (List.length_filter_le _ _) (Nat.le_trans (List.length_take_le _ _) (by have:=KN.out;omega)))
    go_wp2_with (at_builtin;refine wpList_addF rfl (.tmp 19) (.tmp 25) rfl w.heap.size _ _ (k.name,k.kind) rfl O5.out w3.heap.size rfl C5.out C6.out LL.out A5.out.size ?_;intro v2 w9 o2 g2;have O9:=hid o2;have G9:=hid g2;clear o2 g2)
    have A9:=hid (grB A5.out G9.out A5.out.size OL.out)
    have N9:=hid (N5.out.keep (S':=fun g=>S g∧g<w.heap.size) fun g s l=>⟨s,G9.out.block g l (fun e=>by have:=OL.out g e.symm;have:=s.2;omega)⟩)
    go_roundg (ks.length - (i+1))
    case measure=>omega
    case rel=>exact ⟨i+1,by omega,rfl,by rw [Int.natCast_add];rfl,N9.out,A9.out,by rw [E9.out];exact O9.out⟩
  ·have qi':¬ (i:Int)<(ks.length:Int):=by omega
   have TK:=hid (show ks.take i=ks from List.take_of_length_le (by omega))
   rw [TK.out] at II
   go_wp2_with fail
   go_returns
   exact ⟨_,rfl,II.out.ow,II.out.bl⟩
set_option maxRecDepth 100000 in
set_option maxHeartbeats 8000000 in
theorem Rules_any (t:Tr) (S:Nat→Prop) (w:World) (v:Value) (hd:Nd w S v t.kids) (hl:t.kids.length≤10000) :
  Calls Tryz.prog 98 #[.agg #[.string t.op,.string t.name,.int .i64 (t.kind:Nat),.int .i64 t.n,.int .i64 (t.pl:Nat),v]] w fun e w'=>FsP ⟨#[114,117,108,101]⟩ t.kids w e w':=by
 obtain ⟨sa,sm,sc,rfl⟩:=hd.slice
 have B1:=hid (show Below w.heap.size w (w.alloc (.cells #[.string t.op,.string t.name,.int .i64 (t.kind:Nat),.int .i64 t.n,.int .i64 (t.pl:Nat),.slice sa sm sc] 26)) from (Below.refl _ _).alloc (Nat.le_refl _) _)
 have K:=hid (fields_any t ⟨#[114,117,108,101]⟩ S _ _ (hd.gwY B1.out) hl)
 unfold FsP at K
 clear hd hl
 go_enter Tryz.func98,Tryz.ntmps98
 go_wp2_with (go_at_call 119;with_reducible refine Calls.mono K.out ?_;rintro e w2 ⟨v,rfl,o2,b2⟩;have O2:=hid o2;have B2:=hid b2;obtain ⟨ra,rc,rfl⟩:=own_slice o2;clear o2 b2)
 go_returns
 exact ⟨_,rfl,own_wide B1.out.size O2.out,nextB B1.out B2.out⟩
set_option maxRecDepth 100000 in
set_option maxHeartbeats 8000000 in
theorem isDecl_inp (nm:ByteArray) (kd:Nat) (n:Int) (pl:Nat) (va:Option Addr) (vm vc:Nat) (w:World) (h1:1≤kd) (h6:kd≤6)  :
  Calls Tryz.prog 145 #[.agg #[.string ⟨#[105,110,112,117,116]⟩,.string nm,.int .i64 (kd:Nat),.int .i64 n,.int .i64 (pl:Nat),.slice va 0 vc]] w fun e w'=>e=.returned (.bool true)∧Below w.heap.size w w':=by
 have B1:=hid (show Below w.heap.size w (w.alloc (.cells #[.string ⟨#[105,110,112,117,116]⟩,.string nm,.int .i64 (kd:Nat),.int .i64 n,.int .i64 (pl:Nat),.slice va 0 vc] 26)) from (Below.refl _ _).alloc (Nat.le_refl _) _)
 have g1:¬ (kd:Int)<1:=by omega
 have g6:¬ 6<(kd:Int):=by omega
 have g0:=True.intro
 clear h1 h6
 go_enter Tryz.func145,Tryz.ntmps145
 go_wp2_with fail
 go_returns
 exact ⟨rfl,B1.out⟩
set_option maxRecDepth 100000 in
set_option maxHeartbeats 8000000 in
theorem isDecl_rul (nm:ByteArray) (kd:Nat) (n:Int) (pl:Nat) (va:Option Addr) (vm vc:Nat) (w:World) (h1:1≤kd) (h6:kd≤6)  :
  Calls Tryz.prog 145 #[.agg #[.string ⟨#[114,117,108,101]⟩,.string nm,.int .i64 (kd:Nat),.int .i64 n,.int .i64 (pl:Nat),.slice va 1 vc]] w fun e w'=>e=.returned (.bool true)∧Below w.heap.size w w':=by
 have B1:=hid (show Below w.heap.size w (w.alloc (.cells #[.string ⟨#[114,117,108,101]⟩,.string nm,.int .i64 (kd:Nat),.int .i64 n,.int .i64 (pl:Nat),.slice va 1 vc] 26)) from (Below.refl _ _).alloc (Nat.le_refl _) _)
 have g1:¬ (kd:Int)<1:=by omega
 have g6:¬ 6<(kd:Int):=by omega
 have g0:=True.intro
 clear h1 h6
 go_enter Tryz.func145,Tryz.ntmps145
 go_wp2_with fail
 go_returns
 exact ⟨rfl,B1.out⟩
set_option maxRecDepth 100000 in
set_option maxHeartbeats 8000000 in
theorem isDecl_tab (nm:ByteArray) (kd:Nat) (n:Int) (pl:Nat) (va:Option Addr) (vm vc:Nat) (w:World) (h1:1≤kd) (h6:kd≤6) (h0:0<vm) :
  Calls Tryz.prog 145 #[.agg #[.string ⟨#[116,97,98,108,101]⟩,.string nm,.int .i64 (kd:Nat),.int .i64 n,.int .i64 (pl:Nat),.slice va vm vc]] w fun e w'=>e=.returned (.bool true)∧Below w.heap.size w w':=by
 have B1:=hid (show Below w.heap.size w (w.alloc (.cells #[.string ⟨#[116,97,98,108,101]⟩,.string nm,.int .i64 (kd:Nat),.int .i64 n,.int .i64 (pl:Nat),.slice va vm vc] 26)) from (Below.refl _ _).alloc (Nat.le_refl _) _)
 have g1:¬ (kd:Int)<1:=by omega
 have g6:¬ 6<(kd:Int):=by omega
 have g0:(0:Int)<(vm:Int):=by omega
 clear h1 h6
 go_enter Tryz.func145,Tryz.ntmps145
 go_wp2_with fail
 go_returns
 exact ⟨rfl,B1.out⟩
theorem isDecl_any (d:Tr) (hd:GD d) (va:Option Addr) (vc:Nat) (w:World):Calls Tryz.prog 145 #[.agg #[.string d.op,.string d.name,.int .i64 (d.kind:Nat),.int .i64 d.n,.int .i64 (d.pl:Nat),.slice va d.kids.length vc]] w fun e w'=>e=.returned (.bool true)∧Below w.heap.size w w':=by
 cases hd with
 | inp nm kind a h1 h6=>exact isDecl_inp nm kind 0 a va 0 vc w h1 h6
 | rul nm kind a e h1 h6 he=>exact isDecl_rul nm kind 0 a va 0 vc w h1 h6
 | tab nm kind kk a rs l h1 h6 k1 k6 hl hr hz=>exact isDecl_tab nm kind kk a va _ vc w h1 h6 (by show 0<(rs ++ [l]).length;rw [List.length_append];exact Nat.succ_pos _)
def dupF (pre:List Tr):List Tr→Option Nat
 | []=>none
 | d :: ds=>if 0<decN pre d.name∨64≤pre.length then some d.pl else dupF (pre ++ [d]) ds
def okP2 (o:Option Nat) (e:Ending):Prop:=e=.returned (.tuple #[.int .i64 ((o.getD 0:Nat):Int),.bool o.isNone])
structure DIn (w wr:World) (bm:Nat) (S:Nat→Prop) (sv:Value) (ks pre:List Tr):Prop where
 nd:Nd wr (fun g=>S g∧g<w.heap.size) sv ks
 bl:Below w.heap.size w wr
 mp:∃ l,MapS wr bm l∧∀ nm,(atM l nm).getD (.int .i64 0)=.int .i64 (decN pre nm:Nat)
set_option maxRecDepth 100000 in
set_option maxHeartbeats 8000000 in
theorem checkDecls_any (t:Tr) (ho:t.op=sStatute) (S:Nat→Prop) (w:World) (v:Value) (hd:Nd w S v t.kids) (hg:∀ k,k ∈ t.kids→GD k) (hl:t.kids.length≤10000) :
  Calls Tryz.prog 95 #[.agg #[.string t.op,.string t.name,.int .i64 (t.kind:Nat),.int .i64 t.n,.int .i64 (t.pl:Nat),v]] w fun e w'=>okP2 (dupF [] t.kids) e∧Below w.heap.size w w':=by
 obtain ⟨sa,sc,rfl⟩:=hd.lenY
 have hop:t.op=⟨#[115,116,97,116,117,116,101]⟩:=ho
 rw [hop]
 generalize t.kids=ks at *
 have B1:=hid (show Below w.heap.size w (w.alloc (.cells #[.string ⟨#[115,116,97,116,117,116,101]⟩,.string t.name,.int .i64 (t.kind:Nat),.int .i64 t.n,.int .i64 (t.pl:Nat),.slice sa ks.length sc] 26)) from (Below.refl _ _).alloc (Nat.le_refl _) _)
 have X1:=hid (B6.new w 26 (.string ⟨#[115,116,97,116,117,116,101]⟩) (.string t.name) (.int .i64 (t.kind:Nat)) (.int .i64 t.n) (.int .i64 (t.pl:Nat)) (.slice sa ks.length sc))
 have N1:=hid (hd.keep (S':=fun g=>S g∧g<w.heap.size) fun g s l=>⟨⟨s,l⟩,B1.out.block g l⟩)
 have KL:(ks.length:Int)≤10000:=by omega
 have KN:=hid hl
 have HG:=hid hg
 obtain ⟨R,hR⟩:∃ R,dupF [] ks=R:=⟨_,rfl⟩
 have RH:=hid hR
 rw [hR]
 have m2:=mmI
 clear hd hl hg ho hop hR
 have BN:=hid (show Below w.heap.size w ((w.alloc (.cells #[.string ⟨#[115,116,97,116,117,116,101]⟩,.string t.name,.int .i64 (t.kind:Nat),.int .i64 t.n,.int .i64 (t.pl:Nat),.slice sa ks.length sc] 26)).alloc (.map #[] 0)) from ((Below.refl _ _).alloc (Nat.le_refl _) _).alloc (by simp) _)
 have MN:=hid (show MapS ((w.alloc (.cells #[.string ⟨#[115,116,97,116,117,116,101]⟩,.string t.name,.int .i64 (t.kind:Nat),.int .i64 t.n,.int .i64 (t.pl:Nat),.slice sa ks.length sc] 26)).alloc (.map #[] 0)) (w.heap.size+1) [] from by
  have:=MapS.new (w.alloc (.cells #[.string ⟨#[115,116,97,116,117,116,101]⟩,.string t.name,.int .i64 (t.kind:Nat),.int .i64 t.n,.int .i64 (t.pl:Nat),.slice sa ks.length sc] 26))
  rw [World.size_alloc] at this
  exact this)
 have X2:=hid (X1.out.next (show Below _ _ ((w.alloc (.cells #[.string ⟨#[115,116,97,116,117,116,101]⟩,.string t.name,.int .i64 (t.kind:Nat),.int .i64 t.n,.int .i64 (t.pl:Nat),.slice sa ks.length sc] 26)).alloc (.map #[] 0)) from (Below.refl _ _).alloc (Nat.le_refl _) _))
 have N2:=hid (N1.out.keep (S':=fun g=>S g∧g<w.heap.size) fun g s l=>⟨s,((Below.refl _ _).alloc (Nat.le_refl _) (.map #[] 0)).block g l⟩)
 have LB:=hid (show w.heap.size<w.heap.size+1 from by omega)
 go_enter Tryz.func95,Tryz.ntmps95
 go_upto_region 4 with fail
 clear m2 B1 X1 N1
 generalize World.alloc (World.alloc w _) _=w2 at *
 generalize w.heap.size+1=bm at *
 have x5:=X2.out.c5
 go_upto_region 5 with fail
 clear x5
 go_loopg [16,5,6,2,3] (ks.length) (fun g iv jv bv r1 r2 wr=>∃ i:Nat,i≤ks.length∧g=ks.length - i∧iv=.int .i64 (i:Nat)∧Hid (DIn w wr bm S (.slice sa ks.length sc) ks (ks.take i))∧Hid (dupF (ks.take i) (ks.drop i)=R))
 case atStart=>exact ⟨0,Nat.zero_le _,rfl,rfl,⟨N2.out,BN.out,[],MN.out,fun _=>rfl⟩,RH.out⟩
 case round =>
  obtain ⟨i,hi,rfl,rfl,II,EH⟩:=hrel
  by_cases qi:i<ks.length
  ·have qi':(i:Int)<(ks.length:Int):=by omega
   obtain ⟨k,hk⟩:∃ k,ks[i]?=some k:=⟨_,List.getElem?_eq_getElem qi⟩
   obtain ⟨g,c,s3,ea,nc,nk⟩:=II.out.nd.atY i k hk
   obtain ⟨ka,kc,rfl⟩:=nk.lenY
   injection ea with ea _ ec
   subst ea ec
   have GK:=hid (HG.out k (List.mem_of_getElem? hk))
   have TK:=hid (show ks.take (i+1)=ks.take i ++ [k] from by
    obtain ⟨h1,h2⟩:=List.getElem?_eq_some_iff.1 hk
    rw [← h2,List.take_append_getElem])
   have DK:=hid (show ks.drop i=k :: ks.drop (i+1) from by
    obtain ⟨h1,h2⟩:=List.getElem?_eq_some_iff.1 hk
    rw [← h2,List.drop_eq_getElem_cons h1])
   obtain ⟨n0,n1,n2,n3,n4,n5⟩:=nc
   have NK:=hid nk
   clear nk hk
   have B3:=hid (show Below wr.heap.size wr (wr.alloc (.cells #[.string k.op,.string k.name,.int .i64 (k.kind:Nat),.int .i64 k.n,.int .i64 (k.pl:Nat),.slice ka k.kids.length kc] 26)) from (Below.refl _ _).alloc (Nat.le_refl _) _)
   have X3:=hid (B6.new wr 26 (.string k.op) (.string k.name) (.int .i64 (k.kind:Nat)) (.int .i64 k.n) (.int .i64 (k.pl:Nat)) (.slice ka k.kids.length kc))
   have N3:=hid (II.out.nd.keep (S':=fun g=>S g∧g<w.heap.size) fun g s l=>⟨s,B3.out.block g l⟩)
   have A3:=hid (nextB II.out.bl B3.out)
   obtain ⟨l,ml,sl⟩:=II.out.mp
   have M3:=hid (ml.kept (B3.out.block bm ml.lt))
   have SL:=hid sl
   have PL:=hid (show (ks.take i).length=i from by rw [List.length_take];omega)
   clear II NK ml sl
   go_upto_region 7 with fail
   clear n0 n1 n2 n3 n4 n5
   generalize World.alloc wr _=w3 at *
   generalize wr.heap.size=xb at *
   have KD:=hid (isDecl_any k GK.out ka kc w3)
   have EE:=hid (show (if 0<decN (ks.take i) k.name∨64≤i then some k.pl else dupF (ks.take (i+1)) (ks.drop (i+1)))=R from by rw [← EH.out,DK.out,dupF,PL.out,TK.out])
   have CB:(decN (ks.take i) k.name:Int)≤10000:=by have:=Nat.le_trans (List.countP_le_length (p:=fun x=>eqB x.name k.name) (l:=ks.take i)) (Nat.le_of_eq PL.out);have:=KN.out;unfold decN;omega
   obtain ⟨cn,hcn⟩:∃ cn,decN (ks.take i) k.name=cn:=⟨_,rfl⟩
   have CE:=hid hcn
   rw [hcn] at EE CB
   clear hcn EH DK
   obtain ⟨x0,x1,x2,x3,x4,x5,xz⟩:=X3.out
   have cw:IntKind.i64.wrap ((cn:Int)+1)=(cn:Int)+1:=by go_arith
   by_cases qd:0<cn
   ·have qd':(0:Int)<(cn:Int):=by omega
    have FF:=hid (show some k.pl=R from by rw [← EE.out,if_pos (Or.inl qd)])
    clear qd
    go_wp2_with (go_at_call 145;with_reducible refine Calls.mono KD.out ?_;rintro e w4 ⟨rfl,b4⟩;have B4:=hid b4;clear b4;have lk:=lookM1 w4 bm k.name l (M3.out.kept (B4.out.block bm M3.out.lt)) umI zInt;rw [SL.out,CE.out] at lk;obtain ⟨x0,x1,x2,x3,x4,x5,xz⟩:=X3.out.next B4.out)
    go_returns
    exact ⟨by rw [← FF.out];rfl,nextB A3.out B4.out⟩
   ·have qd':¬ (0:Int)<(cn:Int):=by omega
    by_cases q6:64≤i
    ·have q6':(64:Int)≤(i:Int):=by omega
     have FF:=hid (show some k.pl=R from by rw [← EE.out,if_pos (Or.inr q6)])
     clear qd q6
     go_wp2_with (go_at_call 145;with_reducible refine Calls.mono KD.out ?_;rintro e w4 ⟨rfl,b4⟩;have B4:=hid b4;clear b4;have lk:=lookM1 w4 bm k.name l (M3.out.kept (B4.out.block bm M3.out.lt)) umI zInt;rw [SL.out,CE.out] at lk;obtain ⟨x0,x1,x2,x3,x4,x5,xz⟩:=X3.out.next B4.out)
     go_returns
     exact ⟨by rw [← FF.out];rfl,nextB A3.out B4.out⟩
    ·have q6':¬ (64:Int)≤(i:Int):=by omega
     have FF:=hid (show dupF (ks.take (i+1)) (ks.drop (i+1))=R from by rw [← EE.out,if_neg (by omega)])
     have C0:=hid (show cn=0 from by omega)
     clear qd q6
     go_upto_region 9 with (go_at_call 145;with_reducible refine Calls.mono KD.out ?_;rintro e w4 ⟨rfl,b4⟩;have B4:=hid b4;clear b4;have lk:=lookM1 w4 bm k.name l (M3.out.kept (B4.out.block bm M3.out.lt)) umI zInt;rw [SL.out,CE.out] at lk;obtain ⟨x0,x1,x2,x3,x4,x5,xz⟩:=X3.out.next B4.out)
     obtain ⟨w5,r5,m5,g5⟩:=storeM w4 bm k.name (.int .i64 1) l (M3.out.kept (B4.out.block bm M3.out.lt)) umI
     have M5:=hid m5
     have A5:=hid (belG (nextB A3.out B4.out) g5 (Nat.le_of_lt LB.out) (nextB A3.out B4.out).size)
     have N5:=hid ((N3.out.gwY B4.out).keep (S':=fun g=>S g∧g<w.heap.size) fun g s l=>⟨s,g5.block g l (fun e=>by injection e with e;have:=s.2;have:=LB.out;omega)⟩)
     clear m5 g5
     go_wp2_with fail
     go_roundg (ks.length - (i+1))
     case measure=>omega
     case rel=>exact ⟨i+1,by omega,rfl,by rw [Int.natCast_add];rfl,⟨N5.out,A5.out,_,M5.out,fun nm=>by
      rw [TK.out,at_set,dec_app]
      by_cases c:nm=k.name
      ·rw [if_pos c,if_pos c,c,CE.out,C0.out];simp
      ·rw [if_neg c,if_neg c,SL.out nm];simp⟩,FF.out⟩
  ·have qi':¬ (i:Int)<(ks.length:Int):=by omega
   have FF:=hid (show none=R from by rw [← EH.out,List.drop_eq_nil_of_le (by omega)];rfl)
   go_wp2_with fail
   go_returns
   exact ⟨by rw [← FF.out];rfl,II.out.bl⟩
def rul1 (ks:List Tr) (d:Tr):Option Nat :=
 if d.kind=6 then some d.pl else match d.kids with
  | []=>none
  | e :: _=>if (chk ks [] [] e).1=(d.kind:Int) then none else if (chk ks [] [] e).1=0 then some (chk ks [] [] e).2 else some d.pl
def rulF (ks:List Tr):List Tr→Option Nat
 | []=>none
 | d :: ds=>if eqB d.op ⟨#[114,117,108,101]⟩=true then (match rul1 ks d with | some a=>some a | none=>rulF ks ds) else rulF ks ds
structure LIn (w wr:World) (b0 b1 b2 b3 b4 p:Nat) (S:Nat→Prop) (sv:Value) (ks:List Tr):Prop where
 nd:Nd wr (fun g=>S g∧g<w.heap.size) sv ks
 bl:Below w.heap.size w wr
 tm:TabM wr
 sc:∃ f,Scp wr b0 b1 b2 b3 b4 p ks [] [] f
set_option maxRecDepth 100000 in
set_option maxHeartbeats 8000000 in
theorem checkRules_any (t:Tr) (S:Nat→Prop) (w:World) (v:Value) (hd:Nd w S v t.kids) (hg:∀ k,k ∈ t.kids→GD k) (hl:t.kids.length≤10000) (hT:TabM w) :
  Calls Tryz.prog 97 #[.agg #[.string t.op,.string t.name,.int .i64 (t.kind:Nat),.int .i64 t.n,.int .i64 (t.pl:Nat),v]] w fun e w'=>okP2 (rulF t.kids t.kids) e∧Below w.heap.size w w':=by
 have B0:=hid (show ∀ v,Below w.heap.size w (w.alloc (.cells #[.string t.op,.string t.name,.int .i64 (t.kind:Nat),.int .i64 t.n,.int .i64 (t.pl:Nat),v] 26)) from fun v=>(Below.refl _ _).alloc (Nat.le_refl _) _)
 have NS:=hid (newScope_any t S _ v (hd.gwY (B0.out v)) hg hl [] none 0 (fun i x hx=>by simp at hx) (by simp))
 have T1:=hid (hT.next (B0.out v))
 unfold NsP at NS
 obtain ⟨sa,sc,rfl⟩:=hd.lenY
 generalize t.kids=ks at *
 have B1:=hid (show Below w.heap.size w (w.alloc (.cells #[.string t.op,.string t.name,.int .i64 (t.kind:Nat),.int .i64 t.n,.int .i64 (t.pl:Nat),.slice sa ks.length sc] 26)) from (Below.refl _ _).alloc (Nat.le_refl _) _)
 have X1:=hid (B6.new w 26 (.string t.op) (.string t.name) (.int .i64 (t.kind:Nat)) (.int .i64 t.n) (.int .i64 (t.pl:Nat)) (.slice sa ks.length sc))
 have N1:=hid (hd.keep (S':=fun g=>S g∧g<w.heap.size) fun g s l=>⟨⟨s,l⟩,B1.out.block g l⟩)
 have KL:(ks.length:Int)≤10000:=by omega
 have KN:=hid hl
 have HG:=hid hg
 obtain ⟨R,hR⟩:∃ R,rulF ks ks=R:=⟨_,rfl⟩
 have RH:=hid hR
 rw [hR]
 clear hd hl hg hR hT B0
 go_enter Tryz.func97,Tryz.ntmps97
 go_upto_region 1 with fail
 generalize World.alloc w _=w1 at *
 obtain ⟨x0,x1,x2,x3,x4,x5,xz⟩:=X1.out
 go_upto_region 2 with (go_at_call 148;with_reducible refine Calls.mono NS.out ?_;rintro e w2 ⟨b0,b1,b2,b3,b4,p,rfl,sc2,bl2,lt2⟩;have S2:=hid sc2;have B2:=hid bl2;have L2:=hid lt2;clear sc2 bl2 lt2)
 clear x0 x1 x2 x3 x4 x5 xz
 have LT:=hid S2.out.lt
 have BW:=hid (show w.heap.size≤b0 from Nat.le_trans B1.out.size L2.out)
 have I0:=hid (show LIn w w2 b0 b1 b2 b3 b4 p S (.slice sa ks.length sc) ks from ⟨N1.out.keep (fun g s l=>⟨s,B2.out.block g l⟩),nextB B1.out B2.out,T1.out.next B2.out,0,S2.out⟩)
 have x5:=(X1.out.next B2.out).c5
 go_upto_region 3 with fail
 clear x5 S2 B2 N1 T1
 go_loopg [12,6,2,3] (ks.length) (fun g iv bv r1 r2 wr=>∃ i:Nat,i≤ks.length∧g=ks.length - i∧iv=.int .i64 (i:Nat)∧Hid (LIn w wr b0 b1 b2 b3 b4 p S (.slice sa ks.length sc) ks)∧Hid (rulF ks (ks.drop i)=R))
 case atStart=>exact ⟨0,Nat.zero_le _,rfl,rfl,I0.out,RH.out⟩
 case round =>
  obtain ⟨i,hi,rfl,rfl,II,EH⟩:=hrel
  by_cases qi:i<ks.length
  ·have qi':(i:Int)<(ks.length:Int):=by omega
   obtain ⟨k,hk⟩:∃ k,ks[i]?=some k:=⟨_,List.getElem?_eq_getElem qi⟩
   obtain ⟨g,c,s3,ea,nc,nk⟩:=II.out.nd.atY i k hk
   obtain ⟨ka,kc,rfl⟩:=nk.lenY
   injection ea with ea _ ec
   subst ea ec
   have GK:=hid (HG.out k (List.mem_of_getElem? hk))
   have TK:=hid (show ks.take (i+1)=ks.take i ++ [k] from by
    obtain ⟨h1,h2⟩:=List.getElem?_eq_some_iff.1 hk
    rw [← h2,List.take_append_getElem])
   have DK:=hid (show ks.drop i=k :: ks.drop (i+1) from by
    obtain ⟨h1,h2⟩:=List.getElem?_eq_some_iff.1 hk
    rw [← h2,List.drop_eq_getElem_cons h1])
   obtain ⟨n0,n1,n2,n3,n4,n5⟩:=nc
   have NK:=hid nk
   clear nk hk
   have B3:=hid (show Below wr.heap.size wr (wr.alloc (.cells #[.string k.op,.string k.name,.int .i64 (k.kind:Nat),.int .i64 k.n,.int .i64 (k.pl:Nat),.slice ka k.kids.length kc] 26)) from (Below.refl _ _).alloc (Nat.le_refl _) _)
   have X3:=hid (B6.new wr 26 (.string k.op) (.string k.name) (.int .i64 (k.kind:Nat)) (.int .i64 k.n) (.int .i64 (k.pl:Nat)) (.slice ka k.kids.length kc))
   have N3:=hid (II.out.nd.keep (S':=fun g=>S g∧g<w.heap.size) fun g s l=>⟨s,B3.out.block g l⟩)
   have K3:=hid (NK.out.keep (S':=fun g=>S g∧g<w.heap.size) fun g s l=>⟨s,B3.out.block g l⟩)
   have A3:=hid (nextB II.out.bl B3.out)
   have T3:=hid (II.out.tm.next B3.out)
   obtain ⟨f,scf⟩:=II.out.sc
   have S3:=hid (scf.next B3.out)
   have XP:=hid (show p<wr.heap.size from scf.pl)
   have EE:=hid (show (if eqB k.op ⟨#[114,117,108,101]⟩=true then (match rul1 ks k with | some a=>some a | none=>rulF ks (ks.drop (i+1))) else rulF ks (ks.drop (i+1)))=R from by rw [← EH.out,DK.out,rulF])
   clear II NK scf EH DK TK
   go_upto_region 5 with fail
   clear n0 n1 n2 n3 n4 n5
   generalize World.alloc wr _=w3 at *
   generalize wr.heap.size=xb at *
   have x0:=X3.out.c0
   cases y1:eqB k.op ⟨#[114,117,108,101]⟩ with
   | false =>
    have z1:(k.op.toList==[114,117,108,101])=false:=(eqL _ _).trans y1
    have FF:=hid (show rulF ks (ks.drop (i+1))=R from by rw [← EE.out,y1];rfl)
    clear y1
    go_wp2_with fail
    go_roundg (ks.length - (i+1))
    case measure=>omega
    case rel=>exact ⟨i+1,by omega,rfl,by rw [Int.natCast_add];rfl,⟨N3.out,A3.out,T3.out,f,S3.out⟩,FF.out⟩
   | true =>
    have z1:(k.op.toList==[114,117,108,101])=true:=(eqL _ _).trans y1
    have E2:=hid (show (match rul1 ks k with | some a=>some a | none=>rulF ks (ks.drop (i+1)))=R from by rw [← EE.out,y1];rfl)
    obtain ⟨e,hke,he⟩:∃ e,k.kids=[e]∧GE 40 e:=by
     cases GK.out with
     | inp nm kind a h1 h6=>cases y1
     | rul nm kind a e h1 h6 he=>exact ⟨e,rfl,he⟩
     | tab nm kind kk a rs l h1 h6 k1 k6 hl hr hz=>cases y1
    have HE:=hid he
    have R1:=hid (show rul1 ks k=(if k.kind=6 then some k.pl else if (chk ks [] [] e).1=(k.kind:Int) then none else if (chk ks [] [] e).1=0 then some (chk ks [] [] e).2 else some k.pl) from by unfold rul1;rw [hke])
    rw [hke] at K3 X3
    have K4:=hid K3.out
    clear y1 he
    have x2:=X3.out.c2
    have x4:=X3.out.c4
    by_cases q6:k.kind=6
    ·have q6':((k.kind:Int)==6)=true:=by simp;omega
     have FF:=hid (show some k.pl=R from by rw [← E2.out,R1.out,if_pos q6])
     have Q6:=hid q6
     clear q6
     go_wp2_with fail
     go_returns
     exact ⟨by rw [← FF.out];rfl,A3.out⟩
    ·have q6':((k.kind:Int)==6)=false:=beqI _ _ (by omega)
     obtain ⟨g2,c2,s4,ea2,nc2,nk2⟩:=K4.out.atY 0 e rfl
     obtain ⟨ea3,em3,ec3,rfl⟩:=nk2.slice
     injection ea2 with ea2 _ ec2
     subst ea2 ec2
     have KD:=hid (kind_good (b0:=b0) (b1:=b1) (b2:=b2) (b3:=b3) (b4:=b4) (p:=p) (ks:=ks) (be:=[]) (fun g=>S g∧g<w.heap.size) (fun g s=>by have:=s.2;have:=LT.out;have:=BW.out;omega) HE.out [] (by show 0+40≤100;omega) w3 f _ S3.out T3.out nk2)
     obtain ⟨n0,n1,n2,n3,n4,n5⟩:=nc2
     have x5:=X3.out.c5
     have R2:=hid (show rul1 ks k=(if (chk ks [] [] e).1=(k.kind:Int) then none else if (chk ks [] [] e).1=0 then some (chk ks [] [] e).2 else some k.pl) from by rw [R1.out,if_neg q6])
     have KP:=hid (show 1≤k.kind from by
      cases GK.out with
      | inp nm kind a h1 h6=>exact h1
      | rul nm kind a e h1 h6 he=>exact h1
      | tab nm kind kk a rs l h1 h6 k1 k6 hl hr hz=>exact h1)
     clear nk2 q6 R1 hke
     simp only [Nat.zero_mul,Nat.zero_add] at n0 n1 n2 n3 n4 n5
     generalize chk ks [] [] e=cr at *
     obtain ⟨ck,cf⟩:=cr
     dsimp only at KD R2
     go_upto_region 10 with (go_at_call 149;with_reducible refine Calls.mono KD.out ?_;rintro e w4 ⟨rfl,sc4,g4⟩;have S4:=hid sc4;have B4:=hid (g4.bel0 (B:=w.heap.size) A3.out.size (by have:=LT.out;have:=BW.out;omega) (by have:=LT.out;have:=BW.out;omega));have T4:=hid (T3.out.gs g4 (by have:=LT.out;omega) (by have:=LT.out;omega));have X4:=hid (X3.out.keep (g4.block xb X3.out.lt (by have:=S3.out.pl;have:=LT.out;have:=XP.out;omega) (by have:=XP.out;omega)));have N4:=hid (N3.out.keep (S':=fun g=>S g∧g<w.heap.size) fun g s l=>⟨s,g4.block g l (by have:=s.2;have:=LT.out;have:=BW.out;omega) (by have:=s.2;have:=LT.out;have:=BW.out;omega)⟩);clear sc4 g4)
     clear n0 n1 n2 n3 n4 n5 x0 x2 x4 x5
     have A4:=hid (A3.out.trans B4.out)
     have x2:=X4.out.c2
     have x4:=X4.out.c4
     by_cases qk:ck=(k.kind:Int)
     ·have zk:(ck==(k.kind:Int))=true:=by simpa using qk
      have FF:=hid (show rulF ks (ks.drop (i+1))=R from by rw [← E2.out,R2.out,if_pos qk])
      clear qk
      go_wp2_with fail
      go_roundg (ks.length - (i+1))
      case measure=>omega
      case rel=>exact ⟨i+1,by omega,rfl,by rw [Int.natCast_add];rfl,⟨N4.out,A4.out,T4.out,_,S4.out⟩,FF.out⟩
     ·have zk:(ck==(k.kind:Int))=false:=beqI _ _ qk
      by_cases q0:ck=0
      ·have z0:(ck==0)=true:=by simpa using q0
       have FF:=hid (show some cf=R from by rw [← E2.out,R2.out,if_neg qk,if_pos q0])
       have c5:w4.cell? ⟨p,5,none⟩=some (.int .i64 (cf:Nat)):=by have:=S4.out.c5;rw [show fltK (ck,cf) f=cf from by unfold fltK;rw [if_pos q0]] at this;exact this
       clear qk q0
       go_wp2_with fail
       go_returns
       exact ⟨by rw [← FF.out];rfl,A4.out⟩
      ·have z0:(ck==0)=false:=beqI _ _ q0
       have FF:=hid (show some k.pl=R from by rw [← E2.out,R2.out,if_neg qk,if_neg q0])
       clear qk q0
       go_wp2_with fail
       go_returns
       exact ⟨by rw [← FF.out];rfl,A4.out⟩
  ·have qi':¬ (i:Int)<(ks.length:Int):=by omega
   have FF:=hid (show none=R from by rw [← EH.out,List.drop_eq_nil_of_le (by omega)];rfl)
   go_wp2_with fail
   go_returns
   exact ⟨by rw [← FF.out];rfl,II.out.bl⟩
set_option maxRecDepth 100000 in
set_option maxHeartbeats 8000000 in
theorem isLit_lit (nm:ByteArray) (kd:Nat) (n:Int) (pl:Nat) (va:Option Addr) (vc:Nat) (K:Int) (w:World) :
  Calls Tryz.prog 184 #[.agg #[.string ⟨#[108,105,116]⟩,.string nm,.int .i64 (kd:Nat),.int .i64 n,.int .i64 (pl:Nat),.slice va 0 vc],.int .i64 K] w fun e w'=>e=.returned (.bool ((kd:Int)==K))∧Below w.heap.size w w':=by
 have B1:=hid (show Below w.heap.size w (w.alloc (.cells #[.string ⟨#[108,105,116]⟩,.string nm,.int .i64 (kd:Nat),.int .i64 n,.int .i64 (pl:Nat),.slice va 0 vc] 26)) from (Below.refl _ _).alloc (Nat.le_refl _) _)
 by_cases q:(kd:Int)=K
 ·have z:((kd:Int)==K)=true:=by simpa using q
  obtain ⟨D,hD⟩:∃ D,((kd:Int)==K)=D:=⟨_,rfl⟩
  have DH:=hid (show true=D from by rw [← hD,z])
  rw [hD]
  clear q hD
  go_enter Tryz.func184,Tryz.ntmps184
  go_wp2_with fail
  go_returns
  exact ⟨by rw [← DH.out];rfl,B1.out⟩
 ·have z:((kd:Int)==K)=false:=beqI _ _ q
  obtain ⟨D,hD⟩:∃ D,((kd:Int)==K)=D:=⟨_,rfl⟩
  have DH:=hid (show false=D from by rw [← hD,z])
  rw [hD]
  clear q hD
  go_enter Tryz.func184,Tryz.ntmps184
  go_wp2_with fail
  go_returns
  exact ⟨by rw [← DH.out];rfl,B1.out⟩
theorem isLit_any (t:Tr) (h:GL t) (va:Option Addr) (vc:Nat) (K:Int) (w:World):Calls Tryz.prog 184 #[.agg #[.string t.op,.string t.name,.int .i64 (t.kind:Nat),.int .i64 t.n,.int .i64 (t.pl:Nat),.slice va t.kids.length vc],.int .i64 K] w fun e w'=>e=.returned (.bool ((t.kind:Int)==K))∧Below w.heap.size w w':=by
 obtain ⟨kind,n,a,h1,h5,rfl⟩:=h
 exact isLit_lit _ kind _ a va vc K w
def eqLk:List Tr→List Int→Bool
 | [],[]=>true
 | t :: ts,k :: ks=>((t.kind:Int)==k) && eqLk ts ks
 | _,_=>false
set_option maxRecDepth 100000 in
set_option maxHeartbeats 8000000 in
theorem eqf_any (ts:List Tr) (hg:∀ t,t ∈ ts→GL t) (us:List Int) (hlen:ts.length=us.length) (w:World) (S:Nat→Prop) (v:Value) (r o c:Nat) (hA:Nd w S v ts) (hB:∀ i x,us[i]?=some x→w.cell? ⟨r,o+i,none⟩=some (.int .i64 x)) (hl:us.length≤100) :
  Calls Tryz.prog 183 #[v,.slice (some ⟨r,o,none⟩) us.length c,.func (.func 184) #[] #[]] w fun e w'=>e=.returned (.bool (eqLk ts us))∧Below w.heap.size w w':=by
 obtain ⟨sa,sc,rfl⟩:=hA.lenY
 have NA:=hid hA
 have NB:=hid hB
 have HG:=hid hg
 have TL:=hid hlen
 have l1:(us.length:Int)≤100:=by omega
 obtain ⟨F,hF⟩:∃ F,eqLk ts us=F:=⟨_,rfl⟩
 have FE:=hid (show eqLk (ts.drop 0) (us.drop 0)=F from hF)
 rw [hF,hlen]
 clear hA hB hF hg hlen hl
 go_enter Tryz.func183,Tryz.ntmps183
 go_upto_region 4 with fail
 go_loopg [17,7,8,9,6] (us.length) (fun g iv jv bv kv rv wr=>∃ i:Nat,i≤us.length∧g=us.length - i∧iv=.int .i64 (i:Nat)∧Hid (Below w.heap.size w wr)∧Hid (eqLk (ts.drop i) (us.drop i)=F))
 case atStart=>exact ⟨0,Nat.zero_le _,rfl,rfl,Below.refl _ _,FE.out⟩
 case round =>
  obtain ⟨i,hi,rfl,rfl,HB,EH⟩:=hrel
  by_cases q:i<us.length
  ·have q':(i:Int)<(us.length:Int):=by omega
   obtain ⟨t,ht⟩:∃ t,ts[i]?=some t:=⟨_,List.getElem?_eq_getElem (by have:=TL.out;omega)⟩
   obtain ⟨u,hu⟩:∃ u,us[i]?=some u:=⟨_,List.getElem?_eq_getElem q⟩
   have SE:=hid (show (((t.kind:Int)==u) && eqLk (ts.drop (i+1)) (us.drop (i+1)))=F from by rw [← EH.out,List.drop_eq_getElem_cons (by have:=TL.out;omega:i<ts.length),List.drop_eq_getElem_cons q,(List.getElem?_eq_some_iff.1 ht).2,(List.getElem?_eq_some_iff.1 hu).2];rfl)
   obtain ⟨g1,c1,s1,ea,n1,d1⟩:=(NA.out.gwY HB.out).atY i t ht
   obtain ⟨a1,c3,rfl⟩:=d1.lenY
   injection ea with ea _ ec
   subst ea ec
   have cu:=NB.out i u hu
   have cv:=hid ((World.cell?_of_block (a:=⟨r,o+i,none⟩) (HB.out.block r (World.block_lt_of_cell? _ _ cu))).trans cu)
   obtain ⟨k0,k1,k2,k3,k4,k5⟩:=n1
   have BL1:=hid (show Below wr.heap.size wr (wr.alloc (.cells #[.string t.op,.string t.name,.int .i64 (t.kind:Nat),.int .i64 t.n,.int .i64 (t.pl:Nat),.slice a1 t.kids.length c3] 26)) from (Below.refl _ _).alloc (Nat.le_refl _) _)
   have X1:=hid (B6.new wr 26 (.string t.op) (.string t.name) (.int .i64 (t.kind:Nat)) (.int .i64 t.n) (.int .i64 (t.pl:Nat)) (.slice a1 t.kids.length c3))
   have HB1:=hid (nextB HB.out BL1.out)
   have CU:=hid ((World.cell?_of_block (a:=⟨r,o+i,none⟩) (BL1.out.block r (World.block_lt_of_cell? _ _ cv.out))).trans cv.out)
   have GT:=hid (HG.out t (List.mem_of_getElem? ht))
   go_upto_region 6 with fail
   clear k0 k1 k2 k3 k4 k5 cu cv d1 ht hu
   generalize World.alloc wr _=w2 at *
   generalize wr.heap.size=q1 at *
   have cu:=CU.out
   have KC:=hid (isLit_any t GT.out a1 c3 u w2)
   obtain ⟨p0,p1,p2,p3,p4,p5,_⟩:=X1.out
   cases z:((t.kind:Int)==u) with
   | false =>
    rw [z] at KC
    have FF:=hid (show F=false from by rw [← SE.out,z];rfl)
    clear z
    go_wp2_with (go_at_call 184;with_reducible refine Calls.mono KC.out ?_;rintro e w4 ⟨rfl,b4⟩;have B4:=hid b4;clear b4)
    go_returns
    exact ⟨by rw [FF.out];rfl,nextB HB1.out B4.out⟩
   | true =>
    rw [z] at KC
    have FF:=hid (show eqLk (ts.drop (i+1)) (us.drop (i+1))=F from by rw [← SE.out,z];rfl)
    clear z
    go_wp2_with (go_at_call 184;with_reducible refine Calls.mono KC.out ?_;rintro e w4 ⟨rfl,b4⟩;have B4:=hid b4;clear b4)
    go_roundg (us.length - (i+1))
    case measure=>omega
    case rel=>exact ⟨i+1,by omega,rfl,by rw [Int.natCast_add];rfl,nextB HB1.out B4.out,FF.out⟩
  ·have q':¬ (i:Int)<(us.length:Int):=by omega
   have FF:=hid (show F=true from by rw [← EH.out,List.drop_eq_nil_of_le (by have:=TL.out;omega),List.drop_eq_nil_of_le (by omega)];rfl)
   go_wp2_with fail
   go_returns
   exact ⟨by rw [FF.out];rfl,HB.out⟩
def hdN (r:Tr):Int:=match r.kids with | x :: _=>x.n | []=>0
def rwF (N K:Int):Option Int→List Tr→Option Nat
 | _,[]=>none
 | _,[l]=>if eqLk l.kids [K]=true then none else some l.pl
 | prev,r :: s :: rs=>if eqLk r.kids [N,K]=true then (match prev with | some p=>if hdN r≤p then some r.pl else rwF N K (some (hdN r)) (s :: rs) | none=>rwF N K (some (hdN r)) (s :: rs)) else some r.pl
def pvF (ks:List Tr):Nat→Option Int
 | 0=>none
 | i+1=>(ks[i]?).map hdN
theorem rwF_mid (N K:Int) (prev:Option Int) (r s:Tr) (rs:List Tr):rwF N K prev (r :: s :: rs)=if eqLk r.kids [N,K]=true then (match prev with | some p=>if hdN r≤p then some r.pl else rwF N K (some (hdN r)) (s :: rs) | none=>rwF N K (some (hdN r)) (s :: rs)) else some r.pl:=by
 cases prev <;> rfl
theorem rwF_one (N K:Int) (prev:Option Int) (l:Tr):rwF N K prev [l]=if eqLk l.kids [K]=true then none else some l.pl:=by
 cases prev <;> rfl
theorem rw_mid {N K:Int} {ks:List Tr} {i:Nat} {k:Tr} (hk:ks[i]?=some k) (hi:i+1<ks.length):rwF N K (pvF ks i) (ks.drop i)=if eqLk k.kids [N,K]=true then (match pvF ks i with | some p=>if hdN k≤p then some k.pl else rwF N K (pvF ks (i+1)) (ks.drop (i+1)) | none=>rwF N K (pvF ks (i+1)) (ks.drop (i+1))) else some k.pl:=by
 obtain ⟨h1,h2⟩:=List.getElem?_eq_some_iff.1 hk
 rw [show pvF ks (i+1)=some (hdN k) from by show (ks[i]?).map hdN=_;rw [hk];rfl]
 rw [List.drop_eq_getElem_cons h1,h2,List.drop_eq_getElem_cons hi,rwF_mid]
theorem rw_end {N K:Int} {ks:List Tr} {i:Nat} {k:Tr} (hk:ks[i]?=some k) (hi:i+1=ks.length):rwF N K (pvF ks i) (ks.drop i)=if eqLk k.kids [K]=true then none else some k.pl:=by
 obtain ⟨h1,h2⟩:=List.getElem?_eq_some_iff.1 hk
 rw [List.drop_eq_getElem_cons h1,h2,List.drop_eq_nil_of_le (by omega),rwF_one]
set_option maxRecDepth 100000 in
set_option maxHeartbeats 8000000 in
theorem checkRows_any (t:Tr) (S:Nat→Prop) (w:World) (v:Value) (hd:Nd w S v t.kids) (rs:List Tr) (l:Tr) (hks:t.kids=rs ++ [l]) (hl:rs.length≤31) (hr:∀ r,r ∈ rs→GR r) (hz:GZ l) :
  Calls Tryz.prog 147 #[.agg #[.string t.op,.string t.name,.int .i64 (t.kind:Nat),.int .i64 t.n,.int .i64 (t.pl:Nat),v]] w fun e w'=>okP2 (rwF t.n (t.kind:Nat) none t.kids) e∧Below w.heap.size w w':=by
 obtain ⟨tO,tM,tk,tN,tp,ks⟩:=t
 dsimp only [Tr.op,Tr.name,Tr.kind,Tr.n,Tr.pl,Tr.kids] at hd hks ⊢
 obtain ⟨sa,sc,rfl⟩:=hd.lenY
 have hn:ks.length=rs.length+1:=by rw [hks,List.length_append];rfl
 have HM:=hid (show ∀ i k,ks[i]?=some k→i+1<ks.length→GR k from fun i k h q=>by
  rw [hks,List.getElem?_append_left (by omega)] at h
  exact hr k (List.mem_of_getElem? h))
 have HZ:=hid (show ∀ i k,ks[i]?=some k→i+1=ks.length→GZ k from fun i k h q=>by
  rw [hks,List.getElem?_append_right (by omega),show i - rs.length=0 by omega] at h
  simp at h
  rw [← h]
  exact hz)
 clear hks hr hz
 have A2:=hid (show Below w.heap.size w ((w.alloc (.cells #[.string tO,.string tM,.int .i64 (tk:Nat),.int .i64 tN,.int .i64 (tp:Nat),.slice sa ks.length sc] 26)).alloc (.cells #[.int .i64 tN,.int .i64 (tk:Nat)] 23)) from ((Below.refl _ _).alloc (Nat.le_refl _) _).alloc (by simp) _)
 have X2:=hid (show B6 ((w.alloc (.cells #[.string tO,.string tM,.int .i64 (tk:Nat),.int .i64 tN,.int .i64 (tp:Nat),.slice sa ks.length sc] 26)).alloc (.cells #[.int .i64 tN,.int .i64 (tk:Nat)] 23)) w.heap.size (.string tO) (.string tM) (.int .i64 (tk:Nat)) (.int .i64 tN) (.int .i64 (tp:Nat)) (.slice sa ks.length sc) from (B6.new w 26 _ _ _ _ _ _).next ((Below.refl _ _).alloc (Nat.le_refl _) _))
 have C2:=hid (show ((w.alloc (.cells #[.string tO,.string tM,.int .i64 (tk:Nat),.int .i64 tN,.int .i64 (tp:Nat),.slice sa ks.length sc] 26)).alloc (.cells #[.int .i64 tN,.int .i64 (tk:Nat)] 23)).cell? ⟨w.heap.size+1,0,none⟩=some (.int .i64 tN)∧((w.alloc (.cells #[.string tO,.string tM,.int .i64 (tk:Nat),.int .i64 tN,.int .i64 (tp:Nat),.slice sa ks.length sc] 26)).alloc (.cells #[.int .i64 tN,.int .i64 (tk:Nat)] 23)).cell? ⟨w.heap.size+1,1,none⟩=some (.int .i64 (tk:Nat)) from by
  have e:(w.alloc (.cells #[.string tO,.string tM,.int .i64 (tk:Nat),.int .i64 tN,.int .i64 (tp:Nat),.slice sa ks.length sc] 26)).heap.size=w.heap.size+1:=by simp
  rw [← e]
  exact ⟨by simp,by simp⟩)
 have N2:=hid (hd.gwY A2.out)
 have KL:(ks.length:Int)≤32:=by omega
 have K1:(1:Int)≤(ks.length:Int):=by omega
 obtain ⟨R,hR⟩:∃ R,rwF tN (tk:Nat) none ks=R:=⟨_,rfl⟩
 have RH:=hid (show rwF tN (tk:Nat) (pvF ks 0) (ks.drop 0)=R from hR)
 rw [hR]
 clear hd hR hn hl
 go_enter Tryz.func147,Tryz.ntmps147
 go_upto_region 2 with fail
 generalize World.alloc (World.alloc w _) _=w2 at *
 generalize w.heap.size+1=r at *
 have x5:=X2.out.c5
 go_upto_region 4 with fail
 clear x5
 go_loopg [21,6,7,8,2,3] (ks.length) (fun g iv jv bv kv r1 r2 wr=>∃ i:Nat,i≤ks.length∧g=ks.length - i∧iv=.int .i64 (i:Nat)∧Hid (Below w2.heap.size w2 wr)∧Hid (rwF tN (tk:Nat) (pvF ks i) (ks.drop i)=R))
 case atStart=>exact ⟨0,Nat.zero_le _,rfl,rfl,Below.refl _ _,RH.out⟩
 case round =>
  obtain ⟨i,hi,rfl,rfl,II,EH⟩:=hrel
  by_cases qi:i<ks.length
  ·have qi':(i:Int)<(ks.length:Int):=by omega
   obtain ⟨k,hk⟩:∃ k,ks[i]?=some k:=⟨_,List.getElem?_eq_getElem qi⟩
   obtain ⟨g,c,s3,ea,nc,nk⟩:=(N2.out.gwY II.out).atY i k hk
   obtain ⟨ka,kc,rfl⟩:=nk.lenY
   injection ea with ea _ ec
   subst ea ec
   obtain ⟨n0,n1,n2,n3,n4,n5⟩:=nc
   have B3:=hid (show Below wr.heap.size wr (wr.alloc (.cells #[.string k.op,.string k.name,.int .i64 (k.kind:Nat),.int .i64 k.n,.int .i64 (k.pl:Nat),.slice ka k.kids.length kc] 26)) from (Below.refl _ _).alloc (Nat.le_refl _) _)
   have X3:=hid (B6.new wr 26 (.string k.op) (.string k.name) (.int .i64 (k.kind:Nat)) (.int .i64 k.n) (.int .i64 (k.pl:Nat)) (.slice ka k.kids.length kc))
   have A3:=hid (nextB II.out B3.out)
   have NK:=hid (nk.gwY B3.out)
   have CW:=hid (show ∀ x u,w2.cell? ⟨r,x,none⟩=some u→(wr.alloc (.cells #[.string k.op,.string k.name,.int .i64 (k.kind:Nat),.int .i64 k.n,.int .i64 (k.pl:Nat),.slice ka k.kids.length kc] 26)).cell? ⟨r,x,none⟩=some u from fun x u h=>(World.cell?_of_block (a:=⟨r,x,none⟩) (A3.out.block r (World.block_lt_of_cell? _ _ h))).trans h)
   have HK:=hid hk
   clear nk hk II
   by_cases ql:i+1<ks.length
   ·have ql':((i:Int)==(ks.length:Int) - 1)=false:=beqI _ _ (by omega)
    have ql2:(i:Int)<(ks.length:Int) - 1:=by omega
    obtain ⟨ra,x,y,hx,hy,rfl⟩:=HM.out i k HK.out ql
    have EE:=hid (show (if eqLk [x,y] [tN,(tk:Nat)]=true then (match pvF ks i with | some p=>if x.n≤p then some ra else rwF tN (tk:Nat) (pvF ks (i+1)) (ks.drop (i+1)) | none=>rwF tN (tk:Nat) (pvF ks (i+1)) (ks.drop (i+1))) else some ra)=R from by rw [← EH.out,rw_mid HK.out ql];rfl)
    have NX:=hid (show Nd _ S (.slice ka 2 kc) [x,y] from NK.out)
    dsimp only [rowT,sRow,Tr.op,Tr.name,Tr.kind,Tr.n,Tr.pl,Tr.kids] at *
    simp only [List.length_cons,List.length_nil] at *
    go_upto_region 9 with fail
    clear n0 n1 n2 n3 n4 n5 EH NK
    generalize World.alloc wr _=w3 at *
    generalize wr.heap.size=xb at *
    have KC:=hid (eqf_any [x,y] (fun u hu=>by simp at hu;rcases hu with rfl | rfl <;> assumption) [tN,((tk:Nat):Int)] rfl w3 S _ r 0 2 NX.out (fun j u hu=>by
     match j,hu with
     | 0,hu=>simp at hu;subst hu;exact CW.out 0 _ C2.out.1
     | 1,hu=>simp at hu;subst hu;exact CW.out 1 _ C2.out.2
     | j+2,hu=>simp at hu) (by simp))
    simp only [List.length_cons,List.length_nil] at KC
    have x0:=X3.out.c0
    have x5:=X3.out.c5
    cases yb:eqLk [x,y] [tN,((tk:Nat):Int)] with
    | false =>
     rw [yb] at KC
     have FF:=hid (show some ra=R from by rw [← EE.out,yb];rfl)
     clear yb
     go_upto_region 10 with (go_at_call 183;with_reducible refine Calls.mono KC.out ?_;rintro e w4 ⟨rfl,b4⟩;have B4:=hid b4;clear b4)
     have x4:=(X3.out.next B4.out).c4
     go_wp2_with fail
     go_returns
     exact ⟨by rw [← FF.out];rfl,nextB A2.out (nextB A3.out B4.out)⟩
    | true =>
     rw [yb] at KC
     have E2:=hid (show (match pvF ks i with | some p=>if x.n≤p then some ra else rwF tN (tk:Nat) (pvF ks (i+1)) (ks.drop (i+1)) | none=>rwF tN (tk:Nat) (pvF ks (i+1)) (ks.drop (i+1)))=R from by rw [← EE.out,yb];rfl)
     clear yb EE
     go_upto_region 11 with (go_at_call 183;with_reducible refine Calls.mono KC.out ?_;rintro e w4 ⟨rfl,b4⟩;have B4:=hid b4;clear b4)
     clear x0 x5
     have A4:=hid (nextB A3.out B4.out)
     have X4:=hid (X2.out.next A4.out)
     have Y4:=hid (X3.out.next B4.out)
     cases i with
     | zero =>
      have FF:=hid (show rwF tN (tk:Nat) (pvF ks (0+1)) (ks.drop (0+1))=R from E2.out)
      go_quiet (fail)
      have BQ:=hid (drewN_below w4 nq)
      go_wp2_with fail
      go_roundg (ks.length - (0+1))
      case measure=>omega
      case rel=>exact ⟨0+1,by omega,rfl,rfl,nextB A4.out BQ.out,FF.out⟩
     | succ j =>
      obtain ⟨kp,hkp⟩:∃ kp,ks[j]?=some kp:=⟨_,List.getElem?_eq_getElem (by omega)⟩
      obtain ⟨rb,xp,yp,hxp,hyp,rfl⟩:=HM.out j kp hkp (by omega)
      obtain ⟨g9,c9,s9,ea9,nc9,nk9⟩:=(N2.out.gwY A4.out).atY j _ hkp
      obtain ⟨pa,pc,rfl⟩:=nk9.lenY
      injection ea9 with ea9 _ ec9
      subst ec9
      obtain ⟨g8,c8,s8,ea8,nc8,nk8⟩:=(show Nd _ S (.slice pa 2 pc) [xp,yp] from nk9).atY 0 xp rfl
      obtain ⟨g7,c7,s7,ea7,nc7,nk7⟩:=(NX.out.gwY B4.out).atY 0 x rfl
      have m5:=nc9.e5
      have p3:=nc8.e3
      have o3:=nc7.e3
      injection ea9 with ea9
      injection ea9 with ea9
      subst ea9
      injection ea8 with ea8 _ ec8
      injection ea7 with ea7 _ ec7
      subst ea8 ec8 ea7 ec7
      simp only [Nat.zero_mul,Nat.zero_add] at p3 o3
      dsimp only [rowT,Tr.kids] at m5
      simp only [List.length_cons,List.length_nil] at m5
      have E3:=hid (show (if x.n≤xp.n then some ra else rwF tN (tk:Nat) (pvF ks (j+1+1)) (ks.drop (j+1+1)))=R from by rw [← E2.out,show pvF ks (j+1)=some xp.n from by show (ks[j]?).map hdN=_;rw [hkp];rfl])
      have t5:=X4.out.c5
      have y5:=Y4.out.c5
      have wj:IntKind.i64.wrap ((j:Int)+1 - 1)=(j:Int):=by rw [show (j:Int)+1 - 1=(j:Int) by omega];go_arith
      have qj:(j:Int)<(ks.length:Int):=by omega
      have q1:(j:Int)+1<(ks.length:Int) - 1:=by omega
      have q0:(0:Int)<(j:Int)+1:=by omega
      clear nk9 nk8 nk7 nc9 nc8 nc7 hkp E2
      by_cases qx:x.n≤xp.n
      ·have FF:=hid (show some ra=R from by rw [← E3.out,if_pos qx])
       go_quiet (fail)
       have BQ:=hid (drewN_below w4 nq)
       have x4:=(Y4.out.next BQ.out).c4
       go_wp2_with fail
       go_returns
       exact ⟨by rw [← FF.out];rfl,nextB A2.out (nextB A4.out BQ.out)⟩
      ·have FF:=hid (show rwF tN (tk:Nat) (pvF ks (j+1+1)) (ks.drop (j+1+1))=R from by rw [← E3.out,if_neg qx])
       go_quiet (fail)
       have BQ:=hid (drewN_below w4 nq)
       go_wp2_with fail
       go_roundg (ks.length - (j+1+1))
       case measure=>omega
       case rel=>exact ⟨j+1+1,by omega,rfl,by simp,nextB A4.out BQ.out,FF.out⟩
   ·have ql':((i:Int)==(ks.length:Int) - 1)=true:=by simp;omega
    obtain ⟨ra,y,hy,rfl⟩:=HZ.out i k HK.out (by omega)
    have EE:=hid (show (if eqLk [y] [((tk:Nat):Int)]=true then none else some ra)=R from by rw [← EH.out,rw_end HK.out (by omega)];rfl)
    have NX:=hid (show Nd _ S (.slice ka 1 kc) [y] from NK.out)
    dsimp only [rowT,sRow,Tr.op,Tr.name,Tr.kind,Tr.n,Tr.pl,Tr.kids] at *
    simp only [List.length_cons,List.length_nil] at *
    go_upto_region 9 with fail
    clear n0 n1 n2 n3 n4 n5 EH NK
    generalize World.alloc wr _=w3 at *
    generalize wr.heap.size=xb at *
    have KC:=hid (eqf_any [y] (fun u hu=>by simp at hu;rw [hu];exact hy) [((tk:Nat):Int)] rfl w3 S _ r 1 1 NX.out (fun j u hu=>by
     match j,hu with
     | 0,hu=>simp at hu;subst hu;exact CW.out 1 _ C2.out.2
     | j+1,hu=>simp at hu) (by simp))
    simp only [List.length_cons,List.length_nil] at KC
    have x0:=X3.out.c0
    have x5:=X3.out.c5
    cases yb:eqLk [y] [((tk:Nat):Int)] with
    | false =>
     rw [yb] at KC
     have FF:=hid (show some ra=R from by rw [← EE.out,yb];rfl)
     clear yb
     go_upto_region 10 with (go_at_call 183;with_reducible refine Calls.mono KC.out ?_;rintro e w4 ⟨rfl,b4⟩;have B4:=hid b4;clear b4)
     have x4:=(X3.out.next B4.out).c4
     go_wp2_with fail
     go_returns
     exact ⟨by rw [← FF.out];rfl,nextB A2.out (nextB A3.out B4.out)⟩
    | true =>
     rw [yb] at KC
     have FF:=hid (show none=R from by rw [← EE.out,yb];rfl)
     have FG:=hid (show rwF tN (tk:Nat) (pvF ks (i+1)) (ks.drop (i+1))=R from by rw [← FF.out,List.drop_eq_nil_of_le (by omega)];cases pvF ks (i+1) <;> rfl)
     clear yb EE
     go_upto_region 11 with (go_at_call 183;with_reducible refine Calls.mono KC.out ?_;rintro e w4 ⟨rfl,b4⟩;have B4:=hid b4;clear b4)
     clear x0 x5
     have A4:=hid (nextB A3.out B4.out)
     have ql3:¬ (i:Int)<(ks.length:Int) - 1:=by omega
     have ql4:decide ((i:Int)<(ks.length:Int) - 1)=false:=by simpa using ql3
     by_cases q0:0<i
     ·have q0':(0:Int)<(i:Int):=by omega
      go_quiet (fail)
      have BQ:=hid (drewN_below w4 nq)
      go_wp2_with fail
      go_roundg (ks.length - (i+1))
      case measure=>omega
      case rel=>exact ⟨i+1,by omega,rfl,by rw [Int.natCast_add];rfl,nextB A4.out BQ.out,FG.out⟩
     ·have q0':decide ((0:Int)<(i:Int))=false:=by simp;omega
      go_quiet (fail)
      have BQ:=hid (drewN_below w4 nq)
      go_wp2_with fail
      go_roundg (ks.length - (i+1))
      case measure=>omega
      case rel=>exact ⟨i+1,by omega,rfl,by rw [Int.natCast_add];rfl,nextB A4.out BQ.out,FG.out⟩
  ·have qi':¬ (i:Int)<(ks.length:Int):=by omega
   have FF:=hid (show none=R from by rw [← EH.out,List.drop_eq_nil_of_le (by omega)];cases pvF ks i <;> rfl)
   go_wp2_with fail
   go_returns
   exact ⟨by rw [← FF.out];rfl,nextB A2.out II.out⟩
def tab1 (d:Tr):Option Nat:=if keyB d.n=false∨d.kind=6 then some d.pl else rwF d.n (d.kind:Nat) none d.kids
def tabF:List Tr→Option Nat
 | []=>none
 | d :: ds=>if eqB d.op ⟨#[116,97,98,108,101]⟩=true then (match tab1 d with | some a=>some a | none=>tabF ds) else tabF ds
structure TIn (w wr:World) (S:Nat→Prop) (sv:Value) (ks:List Tr):Prop where
 nd:Nd wr (fun g=>S g∧g<w.heap.size) sv ks
 bl:Below w.heap.size w wr
set_option maxRecDepth 100000 in
set_option maxHeartbeats 8000000 in
theorem checkTables_any (t:Tr) (S:Nat→Prop) (w:World) (v:Value) (hd:Nd w S v t.kids) (hg:∀ k,k ∈ t.kids→GD k) (hl:t.kids.length≤10000) :
  Calls Tryz.prog 96 #[.agg #[.string t.op,.string t.name,.int .i64 (t.kind:Nat),.int .i64 t.n,.int .i64 (t.pl:Nat),v]] w fun e w'=>okP2 (tabF t.kids) e∧Below w.heap.size w w':=by
 obtain ⟨sa,sc,rfl⟩:=hd.lenY
 generalize t.kids=ks at *
 have B1:=hid (show Below w.heap.size w (w.alloc (.cells #[.string t.op,.string t.name,.int .i64 (t.kind:Nat),.int .i64 t.n,.int .i64 (t.pl:Nat),.slice sa ks.length sc] 26)) from (Below.refl _ _).alloc (Nat.le_refl _) _)
 have X1:=hid (B6.new w 26 (.string t.op) (.string t.name) (.int .i64 (t.kind:Nat)) (.int .i64 t.n) (.int .i64 (t.pl:Nat)) (.slice sa ks.length sc))
 have N1:=hid (hd.keep (S':=fun g=>S g∧g<w.heap.size) fun g s l=>⟨⟨s,l⟩,B1.out.block g l⟩)
 have KL:(ks.length:Int)≤10000:=by omega
 have KN:=hid hl
 have HG:=hid hg
 obtain ⟨R,hR⟩:∃ R,tabF ks=R:=⟨_,rfl⟩
 have RH:=hid hR
 rw [hR]
 clear hd hl hg hR
 go_enter Tryz.func96,Tryz.ntmps96
 go_upto_region 1 with fail
 generalize World.alloc w _=w1 at *
 have x5:=X1.out.c5
 go_upto_region 2 with fail
 clear x5
 go_loopg [11,5,6,7,2,3] (ks.length) (fun g iv bv av ov r1 r2 wr=>∃ i:Nat,i≤ks.length∧g=ks.length - i∧iv=.int .i64 (i:Nat)∧Hid (TIn w wr S (.slice sa ks.length sc) ks)∧Hid (tabF (ks.drop i)=R))
 case atStart=>exact ⟨0,Nat.zero_le _,rfl,rfl,⟨N1.out,B1.out⟩,RH.out⟩
 case round =>
  obtain ⟨i,hi,rfl,rfl,II,EH⟩:=hrel
  by_cases qi:i<ks.length
  ·have qi':(i:Int)<(ks.length:Int):=by omega
   obtain ⟨k,hk⟩:∃ k,ks[i]?=some k:=⟨_,List.getElem?_eq_getElem qi⟩
   obtain ⟨g,c,s3,ea,nc,nk⟩:=II.out.nd.atY i k hk
   obtain ⟨ka,kc,rfl⟩:=nk.lenY
   injection ea with ea _ ec
   subst ea ec
   have GK:=hid (HG.out k (List.mem_of_getElem? hk))
   have TK:=hid (show ks.take (i+1)=ks.take i ++ [k] from by
    obtain ⟨h1,h2⟩:=List.getElem?_eq_some_iff.1 hk
    rw [← h2,List.take_append_getElem])
   have DK:=hid (show ks.drop i=k :: ks.drop (i+1) from by
    obtain ⟨h1,h2⟩:=List.getElem?_eq_some_iff.1 hk
    rw [← h2,List.drop_eq_getElem_cons h1])
   obtain ⟨n0,n1,n2,n3,n4,n5⟩:=nc
   have NK:=hid nk
   clear nk hk
   have B3:=hid (show Below wr.heap.size wr (wr.alloc (.cells #[.string k.op,.string k.name,.int .i64 (k.kind:Nat),.int .i64 k.n,.int .i64 (k.pl:Nat),.slice ka k.kids.length kc] 26)) from (Below.refl _ _).alloc (Nat.le_refl _) _)
   have X3:=hid (B6.new wr 26 (.string k.op) (.string k.name) (.int .i64 (k.kind:Nat)) (.int .i64 k.n) (.int .i64 (k.pl:Nat)) (.slice ka k.kids.length kc))
   have N3:=hid (II.out.nd.keep (S':=fun g=>S g∧g<w.heap.size) fun g s l=>⟨s,B3.out.block g l⟩)
   have K3:=hid (NK.out.keep (S':=fun g=>S g∧g<w.heap.size) fun g s l=>⟨s,B3.out.block g l⟩)
   have A3:=hid (nextB II.out.bl B3.out)
   have EE:=hid (show (if eqB k.op ⟨#[116,97,98,108,101]⟩=true then (match tab1 k with | some a=>some a | none=>tabF (ks.drop (i+1))) else tabF (ks.drop (i+1)))=R from by rw [← EH.out,DK.out,tabF])
   clear II NK EH DK TK
   go_upto_region 4 with fail
   clear n0 n1 n2 n3 n4 n5
   generalize World.alloc wr _=w3 at *
   generalize wr.heap.size=xb at *
   have x0:=X3.out.c0
   cases y1:eqB k.op ⟨#[116,97,98,108,101]⟩ with
   | false =>
    have z1:(k.op.toList==[116,97,98,108,101])=false:=(eqL _ _).trans y1
    have FF:=hid (show tabF (ks.drop (i+1))=R from by rw [← EE.out,y1];rfl)
    clear y1
    go_wp2_with fail
    go_roundg (ks.length - (i+1))
    case measure=>omega
    case rel=>exact ⟨i+1,by omega,rfl,by rw [Int.natCast_add];rfl,⟨N3.out,A3.out⟩,FF.out⟩
   | true =>
    have z1:(k.op.toList==[116,97,98,108,101])=true:=(eqL _ _).trans y1
    have E2:=hid (show (match tab1 k with | some a=>some a | none=>tabF (ks.drop (i+1)))=R from by rw [← EE.out,y1];rfl)
    obtain ⟨rs,l,hks,hrl,hr,hz⟩:∃ rs l,k.kids=rs ++ [l]∧rs.length≤31∧(∀ r,r ∈ rs→GR r)∧GZ l:=by
     cases GK.out with
     | inp nm kind a h1 h6=>cases y1
     | rul nm kind a e h1 h6 he=>cases y1
     | tab nm kind kk a rs l h1 h6 k1 k6 hl hr hz=>exact ⟨rs,l,rfl,hl,hr,hz⟩
    have KR:=hid (checkRows_any k _ w3 _ K3.out rs l hks hrl hr hz)
    have KY:=hid (isKey_any k.n)
    have T1:=hid (show tab1 k=if keyB k.n=false∨k.kind=6 then some k.pl else rwF k.n (k.kind:Nat) none k.kids from rfl)
    clear y1 EE hks hrl hr hz
    have x3:=X3.out.c3
    have x2:=X3.out.c2
    have x4:=X3.out.c4
    cases yk:keyB k.n with
    | false =>
     rw [yk] at KY
     have FF:=hid (show some k.pl=R from by rw [← E2.out,T1.out,if_pos (Or.inl yk)])
     clear yk
     go_wp2_with (go_at_call 146;with_reducible refine Calls.mono (KY.out _) ?_;rintro e w4 ⟨rfl,rfl⟩)
     go_returns
     exact ⟨by rw [← FF.out];rfl,A3.out⟩
    | true =>
     rw [yk] at KY
     by_cases q6:k.kind=6
     ·have q6':((k.kind:Int)==6)=true:=by simp;omega
      have FF:=hid (show some k.pl=R from by rw [← E2.out,T1.out,if_pos (Or.inr q6)])
      clear yk q6
      go_wp2_with (go_at_call 146;with_reducible refine Calls.mono (KY.out _) ?_;rintro e w4 ⟨rfl,rfl⟩)
      go_returns
      exact ⟨by rw [← FF.out];rfl,A3.out⟩
     ·have q6':((k.kind:Int)==6)=false:=beqI _ _ (by omega)
      have T2:=hid (show tab1 k=rwF k.n (k.kind:Nat) none k.kids from by rw [T1.out,if_neg (fun h=>by rcases h with h | h;(rw [yk] at h;cases h);exact q6 h)])
      clear yk q6 T1
      rw [T2.out] at E2
      unfold okP2 at KR
      generalize rwF k.n (k.kind:Nat) none k.kids=ro at *
      obtain ⟨y0,y1,y2,y3,y4,y5,yz⟩:=X3.out
      cases ro with
      | some a =>
       have FF:=hid (show some a=R from E2.out)
       simp only [Option.getD_some,Option.isNone_some] at KR
       go_wp2_with (first | (go_at_call 146;with_reducible refine Calls.mono (KY.out _) ?_;rintro e w4 ⟨rfl,rfl⟩) | (go_at_call 147;with_reducible refine Calls.mono KR.out ?_;rintro e w4 ⟨rfl,b4⟩;have B4:=hid b4;clear b4))
       go_returns
       exact ⟨by rw [← FF.out];rfl,nextB A3.out B4.out⟩
      | none =>
       have FF:=hid (show tabF (ks.drop (i+1))=R from E2.out)
       simp only [Option.getD_none,Option.isNone_none] at KR
       go_wp2_with (first | (go_at_call 146;with_reducible refine Calls.mono (KY.out _) ?_;rintro e w4 ⟨rfl,rfl⟩) | (go_at_call 147;with_reducible refine Calls.mono KR.out ?_;rintro e w4 ⟨rfl,b4⟩;have B4:=hid b4;clear b4))
       go_roundg (ks.length - (i+1))
       case measure=>omega
       case rel=>exact ⟨i+1,by omega,rfl,by rw [Int.natCast_add];rfl,⟨N3.out.gwY B4.out,nextB A3.out B4.out⟩,FF.out⟩
  ·have qi':¬ (i:Int)<(ks.length:Int):=by omega
   have FF:=hid (show none=R from by rw [← EH.out,List.drop_eq_nil_of_le (by omega)];rfl)
   go_wp2_with fail
   go_returns
   exact ⟨by rw [← FF.out];rfl,II.out.bl⟩
def ckF (ks:List Tr):Option Nat:=match dupF [] ks with | some a=>some a | none=>match tabF ks with | some a=>some a | none=>rulF ks ks
def CkP (ks:List Tr) (e:Ending):Prop:=e=.returned (.tuple #[.int .i64 (((ckF ks).getD 0:Nat):Int),.int .i64 (if (ckF ks).isNone=true then 0 else 8)])
set_option maxRecDepth 100000 in
set_option maxHeartbeats 8000000 in
theorem Check_any (t:Tr) (ho:t.op=sStatute) (S:Nat→Prop) (w:World) (v:Value) (hd:Nd w S v t.kids) (hg:∀ k,k ∈ t.kids→GD k) (hl:t.kids.length≤10000) (hT:TabM w) :
  Calls Tryz.prog 43 #[.agg #[.string t.op,.string t.name,.int .i64 (t.kind:Nat),.int .i64 t.n,.int .i64 (t.pl:Nat),v]] w fun e w'=>CkP t.kids e∧Below w.heap.size w w':=by
 obtain ⟨sa,sm,sc,rfl⟩:=hd.slice
 have B1:=hid (show Below w.heap.size w (w.alloc (.cells #[.string t.op,.string t.name,.int .i64 (t.kind:Nat),.int .i64 t.n,.int .i64 (t.pl:Nat),.slice sa sm sc] 26)) from (Below.refl _ _).alloc (Nat.le_refl _) _)
 have X1:=hid (B6.new w 26 (.string t.op) (.string t.name) (.int .i64 (t.kind:Nat)) (.int .i64 t.n) (.int .i64 (t.pl:Nat)) (.slice sa sm sc))
 have KA:=hid (checkDecls_any t ho S _ _ (hd.gwY B1.out) hg hl)
 have KB:=hid (fun W (b:Below (w.alloc (.cells #[.string t.op,.string t.name,.int .i64 (t.kind:Nat),.int .i64 t.n,.int .i64 (t.pl:Nat),.slice sa sm sc] 26)).heap.size (w.alloc (.cells #[.string t.op,.string t.name,.int .i64 (t.kind:Nat),.int .i64 t.n,.int .i64 (t.pl:Nat),.slice sa sm sc] 26)) W)=>checkTables_any t S W _ ((hd.gwY B1.out).gwY b) hg hl)
 have KC:=hid (fun W (b:Below (w.alloc (.cells #[.string t.op,.string t.name,.int .i64 (t.kind:Nat),.int .i64 t.n,.int .i64 (t.pl:Nat),.slice sa sm sc] 26)).heap.size (w.alloc (.cells #[.string t.op,.string t.name,.int .i64 (t.kind:Nat),.int .i64 t.n,.int .i64 (t.pl:Nat),.slice sa sm sc] 26)) W)=>checkRules_any t S W _ ((hd.gwY B1.out).gwY b) hg hl ((hT.next B1.out).next b))
 unfold CkP
 have CF:=hid (show ckF t.kids=match dupF [] t.kids with | some a=>some a | none=>match tabF t.kids with | some a=>some a | none=>rulF t.kids t.kids from rfl)
 unfold okP2 at KA KB KC
 generalize ckF t.kids=cf at *
 generalize dupF [] t.kids=oa at *
 generalize tabF t.kids=ob at *
 generalize rulF t.kids t.kids=oc at *
 clear hd hg hl hT ho
 go_enter Tryz.func43,Tryz.ntmps43
 go_upto_region 1 with fail
 generalize World.alloc w _=w1 at *
 obtain ⟨x0,x1,x2,x3,x4,x5,xz⟩:=X1.out
 cases oa with
 | some a =>
  obtain rfl:cf=some a:=CF.out
  simp only [Option.getD_some,Option.isNone_some] at KA ⊢
  go_wp2_with (go_at_call 95;with_reducible refine Calls.mono KA.out ?_;rintro e w4 ⟨rfl,b4⟩;have B4:=hid b4;clear b4)
  go_returns
  exact ⟨rfl,nextB B1.out B4.out⟩
 | none =>
  simp only [Option.getD_none,Option.isNone_none] at KA
  cases ob with
  | some a =>
   obtain rfl:cf=some a:=CF.out
   simp only [Option.getD_some,Option.isNone_some] at KB ⊢
   go_upto_region 3 with (go_at_call 95;with_reducible refine Calls.mono KA.out ?_;rintro e w4 ⟨rfl,b4⟩;have B4:=hid b4;clear b4)
   obtain ⟨x0,x1,x2,x3,x4,x5,xz⟩:=X1.out.next B4.out
   go_wp2_with (go_at_call 96;with_reducible refine Calls.mono (KB.out _ B4.out) ?_;rintro e w5 ⟨rfl,b5⟩;have B5:=hid b5;clear b5)
   go_returns
   exact ⟨rfl,nextB B1.out (nextB B4.out B5.out)⟩
  | none =>
   simp only [Option.getD_none,Option.isNone_none] at KB
   obtain rfl:cf=oc:=CF.out
   cases cf with
   | some a =>
    simp only [Option.getD_some,Option.isNone_some] at KC ⊢
    go_upto_region 3 with (go_at_call 95;with_reducible refine Calls.mono KA.out ?_;rintro e w4 ⟨rfl,b4⟩;have B4:=hid b4;clear b4)
    obtain ⟨x0,x1,x2,x3,x4,x5,xz⟩:=X1.out.next B4.out
    go_upto_region 5 with (go_at_call 96;with_reducible refine Calls.mono (KB.out _ B4.out) ?_;rintro e w5 ⟨rfl,b5⟩;have B5:=hid b5;clear b5)
    obtain ⟨x0,x1,x2,x3,x4,x5,xz⟩:=X1.out.next (nextB B4.out B5.out)
    go_wp2_with (go_at_call 97;with_reducible refine Calls.mono (KC.out _ (nextB B4.out B5.out)) ?_;rintro e w6 ⟨rfl,b6⟩;have B6x:=hid b6;clear b6)
    go_returns
    exact ⟨rfl,nextB B1.out (nextB (nextB B4.out B5.out) B6x.out)⟩
   | none =>
    simp only [Option.getD_none,Option.isNone_none] at KC ⊢
    go_upto_region 3 with (go_at_call 95;with_reducible refine Calls.mono KA.out ?_;rintro e w4 ⟨rfl,b4⟩;have B4:=hid b4;clear b4)
    obtain ⟨x0,x1,x2,x3,x4,x5,xz⟩:=X1.out.next B4.out
    go_upto_region 5 with (go_at_call 96;with_reducible refine Calls.mono (KB.out _ B4.out) ?_;rintro e w5 ⟨rfl,b5⟩;have B5:=hid b5;clear b5)
    obtain ⟨x0,x1,x2,x3,x4,x5,xz⟩:=X1.out.next (nextB B4.out B5.out)
    go_wp2_with (go_at_call 97;with_reducible refine Calls.mono (KC.out _ (nextB B4.out B5.out)) ?_;rintro e w6 ⟨rfl,b6⟩;have B6x:=hid b6;clear b6)
    go_returns
    exact ⟨rfl,nextB B1.out (nextB (nextB B4.out B5.out) B6x.out)⟩
theorem good_tr {t:ByteArray} (h:okX t=true):(trX t).op=sStatute∧∀ k,k ∈ (trX t).kids→GD k:=by
 unfold okX at h
 unfold trX
 cases hp:parseX t with
 | inr x=>rw [hp] at h;cases h
 | inl T =>
  obtain ⟨a,ks,e,g⟩:=good_parse hp
  rw [e]
  exact ⟨rfl,g⟩
theorem len_tr {t:ByteArray} (hs:t.size≤3000):(trX t).kids.length≤10000:=by
 cases sz_tr hs with
 | mk _ h _=>exact h
end Go.Proofs.YteknljnjcoehoaaGreatDoor
