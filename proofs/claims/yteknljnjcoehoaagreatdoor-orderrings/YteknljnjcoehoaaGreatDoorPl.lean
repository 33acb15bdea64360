/- Parts of the proof. -/
import Derived.Test.YteknljnjcoehoaaGreatDoorPk
namespace Go.Proofs.YteknljnjcoehoaaGreatDoor
open Go.RowKit
set_option linter.unusedVariables false
set_option linter.unusedSimpArgs false
def sortR (ks:List Tr):Option (List ByteArray):=if (ckF ks).isNone then sorF ks else none
def errS (o:Option (List ByteArray)):Int:=match o with | some _=>0 | none=>8
def SoP (o:Option (List ByteArray)) (w:World) (e:Ending) (w':World):Prop:=∃ v,e=.returned (.tuple #[v,.int .i64 (errS o)])∧Ow w' 9 w.heap.size v (sv (o.getD []))∧Below w.heap.size w w'
structure SoI (w wr:World) (M wb:Nat) (W:List Ln) (acc:List ByteArray) (v:Value) (R:Option (List ByteArray)):Prop where
 wt:∃ a c,wr.cell? ⟨wb,0,none⟩=some (.slice a W.length c)∧(0<W.length→∃ g ys,a=some ⟨g,0,none⟩∧ys.length=W.length∧Lw wr g c ys W∧g<M∧w.heap.size≤g∧∀ (i:Nat) (y:N2),ys[i]?=some y→∀ x,y.a=some x→x.block<M)
 fz:wr.frozen? ⟨wb,0,none⟩=false
 wl:W.length≤10000
 al:acc.length+W.length≤10000
 lb:M≤wb
 ow:Ow wr 9 M v (sv acc)
 ns:NS wr wb
 mm:M≤wr.heap.size
 wm:w.heap.size≤M
 so:sortF W.length W acc=R
 bl:Below w.heap.size w wr
theorem fst_map (W:List Ln):fstI (W.map fun l=>freeW l W)=match W.findIdx? (fun l=>freeW l W) with | some i=>(i:Int) | none=>-1:=by
 unfold fstI
 rw [List.findIdx?_map]
 rfl
theorem Lw.erase {w w':World} {g c i n:Nat} {ys:List N2} {W:List Ln} (h:Lw w g c ys W) (hi:i<ys.length) (hr:∃ cur',RwL w' g c cur'∧cur'.toList.take ((ys.length - 1)*2)=c2 (ys.eraseIdx i)) (gb:w.grownBy w' (some g)):Lw w' g c (ys.eraseIdx i) (W.eraseIdx i):=by
 have e1:(ys.eraseIdx i).length=ys.length - 1:=List.length_eraseIdx_of_lt hi
 have e2:(W.eraseIdx i).length=W.length - 1:=List.length_eraseIdx_of_lt (by rw [← h.len];exact hi)
 refine ⟨by rw [e1];exact hr,by rw [e1,e2,h.len],by have:=h.fits;omega,fun j y l hy hl=>?_⟩
 have k:∃ m:Nat,ys[m]?=some y∧W[m]?=some l:=by
  rw [List.getElem?_eraseIdx] at hy hl
  by_cases c:j<i
  ·rw [if_pos c] at hy hl;exact ⟨_,hy,hl⟩
  ·rw [if_neg c] at hy hl;exact ⟨_,hy,hl⟩
 obtain ⟨m,hm,hn⟩:=k
 obtain ⟨a1,a2,a3,a4⟩:=h.el m y l hm hn
 exact ⟨a1,a2.kept (fun _ x e=>gb.block _ (a4 x e).2 (fun e2=>(a4 x e).1 (by injection e2))),a3,fun x e=>⟨(a4 x e).1,Nat.lt_of_lt_of_le (a4 x e).2 gb.size⟩⟩
theorem Lw.kept {w w':World} {g c M:Nat} {ys:List N2} {W:List Ln} (h:Lw w g c ys W) (hg:g<M) (hx:∀ (i:Nat) (y:N2),ys[i]?=some y→∀ x,y.a=some x→x.block<M) (k:∀ i,i<M→w'.heap[i]?=w.heap[i]?) (hs:w.heap.size≤w'.heap.size):Lw w' g c ys W:=by
 obtain ⟨cur,h1,h2⟩:=h.row
 refine ⟨⟨cur,⟨by rw [k g hg];exact h1.blk,h1.sz,h1.mx⟩,h2⟩,h.len,h.fits,fun i y l hy hl=>?_⟩
 obtain ⟨a1,a2,a3,a4⟩:=h.el i y l hy hl
 exact ⟨a1,a2.kept (fun _ x e=>k _ (hx i y hy x e)),a3,fun x e=>⟨(a4 x e).1,Nat.lt_of_lt_of_le (a4 x e).2 hs⟩⟩
theorem Ow.setns {w:World} {T:TypeId} {B:Nat} {v:Value} {vs:List Value} (h:Ow w 9 B v vs) {p i:Nat} (hn:NS w p) (u:Value):Ow (w.setCell ⟨p,i,none⟩ u) 9 B v vs :=
 h.grown (row:=some p) ⟨rfl,rfl,rfl,by simp,fun k _ hne=>Below.heap_setCell w ⟨p,i,none⟩ u k (fun e=>hne (by rw [show k=p from e]))⟩ (fun g hg e=>h.ns (i:=p) (Or.inr hn) (by rw [hg];exact e))
theorem NS.setc {w:World} {q p i:Nat} (hn:NS w q) (hne:q≠p) (u:Value):NS (w.setCell ⟨p,i,none⟩ u) q:=hn.kept (Below.heap_setCell w ⟨p,i,none⟩ u q hne)
set_option maxRecDepth 100000 in
set_option maxHeartbeats 8000000 in
theorem Sort_any (t:Tr) (ho:t.op=sStatute) (hg:∀ k,k ∈ t.kids→GD k) (hl:t.kids.length≤10000) (hn:nodT t≤90000) (S:Nat→Prop) (w:World) (v:Value) (hd:Nd w S v t.kids) (hT:TabM w) :
  Calls Tryz.prog 17 #[.agg #[.string t.op,.string t.name,.int .i64 (t.kind:Nat),.int .i64 t.n,.int .i64 (t.pl:Nat),v]] w fun e w'=>SoP (sortR t.kids) w e w':=by
 obtain ⟨sa,sm,sc,rfl⟩:=hd.slice
 have B1:=hid (show Below w.heap.size w (w.alloc (.cells #[.string t.op,.string t.name,.int .i64 (t.kind:Nat),.int .i64 t.n,.int .i64 (t.pl:Nat),.slice sa sm sc] 26)) from (Below.refl _ _).alloc (Nat.le_refl _) _)
 have X1:=hid (B6.new w 26 (.string t.op) (.string t.name) (.int .i64 (t.kind:Nat)) (.int .i64 t.n) (.int .i64 (t.pl:Nat)) (.slice sa sm sc))
 have N1:=hid (hd.gwY B1.out)
 have KC:=hid (Check_any t ho S _ _ N1.out hg hl (hT.next B1.out))
 unfold CkP at KC
 have RE:=hid (show (if (ckF t.kids).isNone then sorF t.kids else none)=sortR t.kids from rfl)
 obtain ⟨R,hR⟩:∃ R,sortR t.kids=R:=⟨_,rfl⟩
 rw [hR] at RE ⊢
 have HG:=hid hg
 have HL:=hid hl
 have HN:=hid hn
 clear hd hg hl hn hT ho hR
 unfold SoP
 go_enter Tryz.func17,Tryz.ntmps17
 go_upto_region 1 with fail
 generalize World.alloc w _=w1 at *
 obtain ⟨x0,x1,x2,x3,x4,x5,xz⟩:=X1.out
 cases hc:ckF t.kids with
 | some a =>
  rw [hc] at KC RE
  have FF:=hid (show R=none from RE.out.symm)
  simp only [Option.getD_some,Option.isNone_some,Bool.false_eq_true,if_false] at KC
  clear hc RE
  go_wp2_with (go_at_call 43;(with_reducible refine Calls.mono KC.out ?_);rintro e w4 ⟨rfl,b4⟩;have B4:=hid b4;clear b4)
  go_returns
  exact ⟨_,by rw [FF.out];rfl,by rw [FF.out];exact Ow.nil _ _ _,nextB B1.out B4.out⟩
 | none =>
  rw [hc] at KC RE
  have RS:=hid (show sorF t.kids=R from RE.out)
  simp only [Option.getD_none,Option.isNone_none,if_true] at KC
  clear hc RE
  go_upto_region 5 with (go_at_call 43;(with_reducible refine Calls.mono KC.out ?_);rintro e w3 ⟨rfl,b3⟩;have B3:=hid b3;clear b3)
  clear x0 x1 x2 x3 x4 x5 xz
  have X3:=hid (X1.out.next B3.out)
  have KL:=hid (leans_any t HG.out HL.out HN.out S w3 _ (N1.out.gwY B3.out))
  unfold LsP at KL
  have LL:=hid (show (leansF t.kids).length≤10000 from by unfold leansF rnF fldF;rw [List.length_map,List.length_map,List.length_map];exact Nat.le_trans (List.length_filter_le _ _) HL.out)
  have A3:=hid (nextB B1.out B3.out)
  have RS2:=hid (show sortF (leansF t.kids).length (leansF t.kids) []=R from RS.out)
  generalize leansF t.kids=L0 at *
  obtain ⟨x0,x1,x2,x3,x4,x5,xz⟩:=X3.out
  go_upto_region 6 with (go_at_call 44;(with_reducible refine Calls.mono KL.out ?_);rintro e w4 ⟨wv,rfl,b4,h4⟩;have B4:=hid b4;have H4:=hid (show ∃ a c,wv=.slice a L0.length c∧(0<L0.length→∃ g ys,a=some ⟨g,0,none⟩∧ys.length=L0.length∧Lw w4 g c ys L0∧w.heap.size≤g) from by
   rcases h4 with ⟨rfl,rfl⟩ | ⟨g,cap,ys,rfl,hlw,hge⟩
   ·exact ⟨none,0,rfl,fun h=>absurd h (Nat.lt_irrefl 0)⟩
   ·exact ⟨_,cap,by rw [hlw.len],fun _=>⟨g,ys,rfl,hlw.len,hlw,Nat.le_trans A3.out.size hge⟩⟩);clear b4 h4;obtain ⟨wa,wc,rfl,h5⟩:=H4.out;have H5:=hid h5;clear h5 H4)
  clear x0 x1 x2 x3 x4 x5 xz KL
  have I0:=hid (show SoI w (w4.alloc (.cells #[.slice wa L0.length wc] 80)) w4.heap.size w4.heap.size L0 [] (.slice none 0 0) R from by
   have ba:Below w4.heap.size w4 (w4.alloc (.cells #[.slice wa L0.length wc] 80)):=(Below.refl _ _).alloc (Nat.le_refl _) _
   refine ⟨⟨wa,wc,by simp,fun h=>?_⟩,by simp,LL.out,by have:=LL.out;simp;omega,Nat.le_refl _,Ow.nil _ _ _,NS.new _ _ _ (by decide),ba.size,(nextB A3.out B4.out).size,RS2.out,nextB (nextB A3.out B4.out) ba⟩
   obtain ⟨g,ys,h1,h2,h3,h4⟩:=H5.out h
   exact ⟨g,ys,h1,h2,h3.next ba,h3.gl,h4,fun i y hy x e=>by
    obtain ⟨l,hl⟩:∃ l,L0[i]?=some l:=⟨_,List.getElem?_eq_getElem (by rw [← h2];exact lt_of_some hy)⟩
    exact ((h3.el i y l hy hl).2.2.2 x e).2⟩)
  generalize World.alloc w4 _=w5 at *
  generalize w4.heap.size=M at *
  clear H5 B4 X1 N1 X3 A3 B3 B1
  go_loopg [7,6,8] (L0.length) (fun g pv v iv wr=>∃ (wb:Nat) (W:List Ln) (acc:List ByteArray),g=W.length∧pv=.pointer (some ⟨wb,0,none⟩)∧Hid (SoI w wr M wb W acc v R))
  case atStart=>exact ⟨M,L0,[],rfl,rfl,I0.out⟩
  case round =>
   obtain ⟨v0,ev0⟩:∃ x,x=u6:=⟨_,rfl⟩
   subst ev0
   obtain ⟨wb,W,acc,rfl,rfl,II⟩:=hrel
   obtain ⟨a,c,hc,hrow⟩:=II.out.wt
   have HR:=hid hrow
   have WL:=hid II.out.wl
   have wl:(W.length:Int)≤10000:=by have:=WL.out;omega
   clear hrow
   by_cases qn:0<W.length
   ·have qn':(0:Int)<(W.length:Int):=by omega
    obtain ⟨g,ys,rfl,hyl,hlw,hgM,hgW,hxM⟩:=HR.out qn
    have YL:=hid hyl
    have LW:=hid hlw
    have GM:=hid hgM
    have GW:=hid hgW
    have XM:=hid hxM
    have hc2:wr.cell? ⟨wb,0,none⟩=some (.slice (some ⟨g,0,none⟩) ys.length c):=by rw [hyl];exact hc
    have KI:=hid (indexW wb hlw (by rw [hyl];exact WL.out) hc2)
    rw [fst_map,hyl] at KI
    clear hyl hlw hgM hgW hxM hc2
    cases hx:W.findIdx? (fun l=>freeW l W) with
    | none =>
     rw [hx] at KI
     have FF:=hid (show R=none from by
      rw [← II.out.so]
      obtain ⟨m,hm⟩:∃ m,W.length=m+1:=⟨W.length - 1,by omega⟩
      rw [hm,sortF,hx])
     clear hx qn
     go_wp2_with (go_at_call 45;(with_reducible refine Calls.mono KI.out ?_);rintro e w7 ⟨rfl,b7⟩;have B7:=hid b7;clear b7)
     go_returns
     exact ⟨_,by rw [FF.out];rfl,by rw [FF.out];exact Ow.nil _ _ _,nextB II.out.bl B7.out⟩
    | some i =>
     rw [hx] at KI
     have qi:i<W.length:=by
      rw [List.findIdx?_eq_some_iff_getElem] at hx
      exact hx.1
     obtain ⟨l,hl⟩:∃ l,W[i]?=some l:=⟨_,List.getElem?_eq_getElem qi⟩
     obtain ⟨y,hy⟩:∃ y,ys[i]?=some y:=⟨_,List.getElem?_eq_getElem (by rw [YL.out];exact qi)⟩
     have yn:=(LW.out.el i y l hy hl).1
     have SO:=hid (show sortF (W.eraseIdx i).length (W.eraseIdx i) (acc ++ [l.1])=R from by
      rw [← II.out.so,List.length_eraseIdx_of_lt qi]
      obtain ⟨m,hm⟩:∃ m,W.length=m+1:=⟨W.length - 1,by omega⟩
      rw [hm,sortF,hx]
      show _=sortF m (W.eraseIdx i) (acc ++ [((W[i]?).getD (⟨#[]⟩,[])).1])
      rw [hl]
      rfl)
     have HY:=hid hy
     have YN:=hid yn
     have qi':(i:Int)<(W.length:Int):=by omega
     have qi0:¬ (i:Int)<0:=by omega
     have EL:=hid (show (W.eraseIdx i).length=W.length - 1 from List.length_eraseIdx_of_lt qi)
     clear hx qn hl hy yn
     go_upto_region 8 with (go_at_call 45;(with_reducible refine Calls.mono KI.out ?_);rintro e w7 ⟨rfl,b7⟩;have B7:=hid b7;clear b7)
     have BA:=hid (show Below w7.heap.size w7 (w7.alloc (.cells #[.string y.n] 9)) from (Below.refl _ _).alloc (Nat.le_refl _) _)
     have hc7:=celB B7.out hc
     have fz7:w7.frozen? ⟨wb,0,none⟩=false:=by rw [World.frozen?_of_block (a:=⟨wb,0,none⟩) (B7.out.block wb (World.block_lt_of_cell? _ _ hc))];exact II.out.fz
     have c0:=((LW.out.next B7.out).cell HY.out).1
     have LA:=hid ((LW.out.next B7.out).next BA.out)
     have OA:=hid ((II.out.ow.below B7.out).below BA.out)
     have NA:=hid (sl_new w7 (.string y.n) 9 rfl)
     have MA:=hid (show M≤(w7.alloc (.cells #[.string y.n] 9)).heap.size from Nat.le_trans II.out.mm (Nat.le_trans B7.out.size BA.out.size))
     have LN:=hid (show (sv acc).length+1≤1000000 from by rw [sv_len];have:=II.out.al;omega)
     have WBL:=hid (World.block_lt_of_cell? _ _ hc)
     have NW:=hid ((II.out.ns.next WBL.out B7.out).next (Nat.lt_of_lt_of_le WBL.out B7.out.size) BA.out)
     have HA:=hid (show acc.length+W.length≤10000 from II.out.al)
     have LBD:=hid II.out.lb
     have WMD:=hid II.out.wm
     have A8:=hid (nextB (nextB II.out.bl B7.out) BA.out)
     have CA:=hid (celB BA.out hc7)
     have FA:=hid (show (w7.alloc (.cells #[.string y.n] 9)).frozen? ⟨wb,0,none⟩=false from by rw [World.frozen?_of_block (a:=⟨wb,0,none⟩) (BA.out.block wb (World.block_lt_of_cell? _ _ hc7))];exact fz7)
     obtain ⟨va,vc,ev⟩:=own_slice OA.out.row
     rw [sv_len] at ev
     subst ev
     clear hc II
     go_upto_region 11 with (at_builtin;refine wpList_append_sa 32 9 (.string ByteArray.empty) 16 Tryz.underlying32 strInfo rfl (by decide) rfl (.tmp 27) (.tmp 33) rfl M _ (sv acc) rfl OA.out (some ⟨w7.heap.size,0,none⟩) 1 1 [.string y.n] rfl NA.out LN.out MA.out ?_;intro v8 w8 o8 g8 l8;have O8:=hid o8;have G8:=hid g8;clear o8 g8 l8)
     clear hc7 fz7 c0
     have NB:=hid (fun i (hi:i<M)=>OA.out.ns (Or.inl hi))
     have K8:=hid (show ∀ i,i<M→w8.heap[i]?=(w7.alloc (.cells #[.string y.n] 9)).heap[i]? from fun i hi=>G8.out.block i (Nat.lt_of_lt_of_le hi MA.out) (fun e=>NB.out i hi e.symm))
     have EW:=hid (show w8.heap[wb]?=(w7.alloc (.cells #[.string y.n] 9)).heap[wb]? from G8.out.block wb (World.block_lt_of_cell? _ _ CA.out) (fun e=>OA.out.ns (Or.inr NW.out) e.symm))
     have L8:=hid (LA.out.kept GM.out XM.out K8.out G8.out.size)
     have hc8:=(World.cell?_of_block (a:=⟨wb,0,none⟩) EW.out).trans CA.out
     have N8:=hid (NW.out.kept EW.out)
     have fz8:w8.frozen? ⟨wb,0,none⟩=false:=by rw [World.frozen?_of_block (a:=⟨wb,0,none⟩) EW.out];exact FA.out
     have M8:=hid (Nat.le_trans MA.out G8.out.size)
     have B8:=hid (grB A8.out G8.out A8.out.size (fun i e=>Nat.le_trans WMD.out (OA.out.lt i e).1))
     have WB8:=hid (World.block_lt_of_cell? _ _ hc8)
     have NE:=hid (show some wb≠some g from fun e=>by injection e with e;have:=LBD.out;have:=GM.out;omega)
     obtain ⟨cur,hr1,hr2⟩:=L8.out.row
     have KD:=hid (DeleteN_any g W.length c i (i:Nat) ((i:Nat)+1) cur ys w8 hr1 YL.out (by rw [← YL.out];exact L8.out.fits) (by rw [← YL.out];exact hr2) qi (by have:=WL.out;omega) rfl (by rw [Int.natCast_add];rfl))
     clear hr1 hr2
     go_upto_region 12 with (go_at_call 48;(with_reducible refine Calls.mono KD.out ?_);rintro e w9 ⟨rfl,hr9,g9⟩;have H9:=hid hr9;have G9:=hid g9;clear hr9 g9;have hc9:=(World.cell?_of_block (a:=⟨wb,0,none⟩) (G9.out.block wb (World.block_lt_of_cell? _ _ hc8) (fun e=>by injection e with e;have:=LBD.out;have:=GM.out;omega))).trans hc8;have fz9:w9.frozen? ⟨wb,0,none⟩=false:=by rw [World.frozen?_of_block (a:=⟨wb,0,none⟩) (G9.out.block wb (World.block_lt_of_cell? _ _ hc8) (fun e=>by injection e with e;have:=LBD.out;have:=GM.out;omega))];exact fz8)
     have C10:=hid (show (w9.setCell ⟨wb,0,none⟩ (.slice (some ⟨g,0,none⟩) (W.length - 1) c)).cell? ⟨wb,0,none⟩=some (.slice (some ⟨g,0,none⟩) (W.length - 1) c) from cell_eq hc9)
     have EB:=hid (G9.out.block wb WB8.out NE.out)
     have N9:=hid (N8.out.kept EB.out)
     have O10:=hid (Ow.setns (T:=9) (p:=wb) (i:=0) (O8.out.grown G9.out (fun k hk e=>by have:=(O8.out.lt k hk).1;have:=GM.out;injection e with e;omega)) N9.out (.slice (some ⟨g,0,none⟩) (W.length - 1) c))
     have L9:=hid (L8.out.erase (n:=0) (by rw [YL.out];exact qi) (by rw [YL.out];exact H9.out) G9.out)
     have XE:=hid (show ∀ (j:Nat) (z:N2),(ys.eraseIdx i)[j]?=some z→∀ x,z.a=some x→x.block<M from fun j z hz=>by
      rw [List.getElem?_eraseIdx] at hz
      by_cases q:j<i
      ·rw [if_pos q] at hz;exact XM.out _ _ hz
      ·rw [if_neg q] at hz;exact XM.out _ _ hz)
     have L10:=hid (L9.out.kept (w':=w9.setCell ⟨wb,0,none⟩ (.slice (some ⟨g,0,none⟩) (W.length - 1) c)) GM.out XE.out (fun k hk=>Below.heap_setCell w9 ⟨wb,0,none⟩ _ k (fun e=>by have:=LBD.out;have e:k=wb:=e;omega)) (by simp))
     have B10:=hid ((grB B8.out G9.out B8.out.size (fun k e=>by injection e with e;have:=GW.out;omega)).setCell (p:=⟨wb,0,none⟩) (Nat.le_trans WMD.out LBD.out) (.slice (some ⟨g,0,none⟩) (W.length - 1) c))
     have M10:=hid (show M≤(w9.setCell ⟨wb,0,none⟩ (.slice (some ⟨g,0,none⟩) (W.length - 1) c)).heap.size from by have:=M8.out;have:=G9.out.size;simp;omega)
     have EYL:=hid (show (ys.eraseIdx i).length=W.length - 1 from by rw [List.length_eraseIdx_of_lt (by rw [YL.out];exact qi),YL.out])
     have F10:=hid (show ∀ k,k<M→(w9.setCell ⟨wb,0,none⟩ (.slice (some ⟨g,0,none⟩) (W.length - 1) c)).heap[k]?=w9.heap[k]? from fun k hk=>Below.heap_setCell w9 ⟨wb,0,none⟩ _ k (fun e=>by have:=LBD.out;have e:k=wb:=e;omega))
     clear hc9 fz9 L8 L9 O8 N8 N9 LA OA NA NW CA FA HR KD KI
     generalize World.setCell w9 _ _=w10 at *
     have c10:=C10.out
     have BF:=hid (show Below w10.heap.size w10 (w10.alloc (.cells #[.slice (some ⟨g,0,none⟩) (W.length - 1) c] 80)) from (Below.refl _ _).alloc (Nat.le_refl _) _)
     have IF:=hid (show SoI w (w10.alloc (.cells #[.slice (some ⟨g,0,none⟩) (W.length - 1) c] 80)) M w10.heap.size (W.eraseIdx i) (acc ++ [l.1]) v8 R from
      ⟨⟨some ⟨g,0,none⟩,c,by rw [EL.out];simp,fun _=>⟨g,ys.eraseIdx i,rfl,by rw [EL.out];exact EYL.out,L10.out.next BF.out,GM.out,GW.out,XE.out⟩⟩,by simp,by rw [EL.out];have:=WL.out;omega,by rw [EL.out,List.length_append];have:=HA.out;show acc.length+1+(W.length - 1)≤10000;omega,M10.out,by rw [← YN.out];have:=O10.out.below BF.out;rw [show sv (acc ++ [y.n])=sv acc ++ [.string y.n] from by rw [sv_app];rfl];exact this,NS.new _ _ _ (by decide),Nat.le_trans M10.out BF.out.size,WMD.out,SO.out,nextB B10.out BF.out⟩)
     go_wp2_with fail
     go_roundg (W.eraseIdx i).length
     case measure=>rw [EL.out];omega
     case rel=>exact ⟨w10.heap.size,W.eraseIdx i,acc ++ [l.1],rfl,rfl,IF.out⟩
   ·have qn':¬ (0:Int)<(W.length:Int):=by omega
    have FF:=hid (show R=some acc from by
     have:=II.out.so
     rw [show W.length=0 by omega,sortF] at this
     exact this.symm)
    go_wp2_with fail
    go_returns
    exact ⟨_,by rw [FF.out];rfl,by rw [FF.out];exact II.out.ow.mono II.out.wm,II.out.bl⟩
end Go.Proofs.YteknljnjcoehoaaGreatDoor
