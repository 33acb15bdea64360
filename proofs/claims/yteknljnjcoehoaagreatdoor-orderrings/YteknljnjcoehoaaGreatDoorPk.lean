/- Parts of the proof. -/
import Derived.Test.YteknljnjcoehoaaGreatDoorPj
import Derived.Test.YteknljnjcoehoaaGreatDoorPg
namespace Go.Proofs.YteknljnjcoehoaaGreatDoor
open Go.RowKit
set_option linter.unusedVariables false
set_option linter.unusedSimpArgs false
theorem leanInfo:(Tryz.prog.info? 84).map (fun i=>(i.zero,i.size,i.bytes))=some (some (.agg #[.string ⟨#[]⟩,.slice none 0 0]),2,40):=by kernel_rfl
theorem step_addL {w:World} {ops:Array Oper} {o:Oper} {a:Act} {K:Act→World→Prop} {Q:Exit→Act→World→Prop} {E:Prop} (hgd:o.guard=none) (sl x:Operand)
  (ho:o.op=.call { callee:=.builtin .append,args:=#[sl,x],argTypes:=#[80,80] }) (B:Nat) (v:Value) (ys:List N2) (y:N2) (hs:a.eval sl=v) (hown:w.ownsRow B 84 2 v ys.length (c2 ys)) (g:Nat) (hx:a.eval x=.slice (some ⟨g,0,none⟩) 1 1) (hc:B2 w g y) (hl:ys.length≤100000) (hB:B≤w.heap.size)
  (h:∀ v' w',w'.ownsRow B 84 2 v' (ys ++ [y]).length (c2 (ys ++ [y]))→w.grownBy w' v.ownBlock→v'≠.slice none 0 0→K (a.put o.dst v') w'):if Region.wanted o (yielded ops a.tmps)=true then Oper.wp Tryz.prog o a w K Q else E:=by
 have hw:Region.wanted o (yielded ops a.tmps)=true:=by simp [Region.wanted,hgd]
 rw [if_pos hw]
 obtain ⟨i0,hi,hz0,hz1,hz2⟩:=info_parts leanInfo
 refine wp_append_own w sl x 80 ho B 84 i0 _ 2 40 Tryz.underlying80 hi hz0 hz1 hz2 rfl (by decide) v ys.length (c2 ys) hs hown ⟨g,0,none⟩ 1 1 y.cs hx rfl (fun j u hu=>?_) (fun u hu=>?_) (by unfold maxLen;omega) (by omega) hB (fun v' w' h2 h3 h4=>?_)
 ·match j,hu with
  | 0,hu=>simp [N2.cs] at hu;subst hu;simpa [Addr.add] using hc.1
  | 1,hu=>simp [N2.cs] at hu;subst hu;simpa [Addr.add] using hc.2
  | j+2,hu=>simp [N2.cs] at hu
 ·simp [N2.cs] at hu;rcases hu with rfl | rfl <;> rfl
 ·refine h v' w' ?_ h3 (fun e=>by have:=(h4.1 e).2;omega)
  rw [List.length_append,show c2 (ys ++ [y])=c2 ys ++ y.cs from by rw [c2_app];simp [c2]]
  exact h2
def SB (w:World) (i:Nat):Prop:=∃ cs fr,w.heap[i]?=some (.cells cs 9 fr)
theorem SB.kept {w w':World} {i:Nat} (h:SB w i) (e:w'.heap[i]?=w.heap[i]?):SB w' i:=by
 obtain ⟨cs,fr,h⟩:=h
 exact ⟨cs,fr,by rw [e];exact h⟩
theorem Ow.sb {w:World} {B:Nat} {a:Option Addr} {n c:Nat} {vs:List Value} (h:Ow w 9 B (.slice a n c) vs):∀ x,a=some x→SB w x.block∧B≤x.block:=by
 intro x e
 subst e
 rcases h.row.2 with ⟨h1,_⟩ | ⟨g,cap,cur,hv,hb,hg,_⟩
 ·cases h1
 ·injection hv with hv
  injection hv with hv
  subst hv
  exact ⟨⟨_,_,hg⟩,hb⟩
structure Lq (w:World) (B:Nat) (v:Value) (ys:List N2) (L:List Ln):Prop where
 own:w.ownsRow B 84 2 v ys.length (c2 ys)
 len:ys.length=L.length
 el:∀ (i:Nat) (y:N2) (l:Ln),ys[i]?=some y→L[i]?=some l→y.n=l.1∧Sl w y.a y.m y.c (sv l.2)∧l.2.length≤1000000∧∀ x,y.a=some x→SB w x.block∧x.block<w.heap.size
theorem Lq.nil (w:World) (B:Nat):Lq w B (.slice none 0 0) [] []:=⟨World.ownsRow_nil _ _ _ _,rfl,fun i y l hy=>by simp at hy⟩
theorem Lq.next {w w':World} {B:Nat} {v:Value} {ys:List N2} {L:List Ln} (h:Lq w B v ys L) (b:Below w.heap.size w w'):Lq w' B v ys L :=
 ⟨own_keep h.own fun g _ l=>b.block g l,h.len,fun i y l hy hl=>by
  obtain ⟨a1,a2,a3,a4⟩:=h.el i y l hy hl
  exact ⟨a1,a2.below b,a3,fun x e=>⟨(a4 x e).1.kept (b.block _ (a4 x e).2),Nat.lt_of_lt_of_le (a4 x e).2 b.size⟩⟩⟩
theorem own_typ {w:World} {B:Nat} {v:Value} {n:Nat} {xs:List Value} (h:w.ownsRow B 84 2 v n xs) {i:Nat} (hs:SB w i):some i≠v.ownBlock:=by
 intro e
 rcases h.2 with ⟨h1,_⟩ | ⟨g,cap,cur,rfl,_,hg,_⟩
 ·subst h1;cases e
 ·simp [Value.ownBlock] at e
  subst e
  obtain ⟨cs,fr,hs⟩:=hs
  rw [hg] at hs
  injection hs with hs
  injection hs with _ hs _
  revert hs
  decide
theorem Lq.add {w w':World} {B:Nat} {v v':Value} {ys:List N2} {L:List Ln} (h:Lq w B v ys L) (y:N2) (l:Ln) (h1:y.n=l.1) (h2:Sl w y.a y.m y.c (sv l.2)) (h3:l.2.length≤1000000) (h4:∀ x,y.a=some x→SB w x.block∧x.block<w.heap.size)
  (o:w'.ownsRow B 84 2 v' (ys ++ [y]).length (c2 (ys ++ [y]))) (g:w.grownBy w' v.ownBlock):Lq w' B v' (ys ++ [y]) (L ++ [l]):=by
 have k:∀ (z:N2) (m:Ln),z.n=m.1→Sl w z.a z.m z.c (sv m.2)→m.2.length≤1000000→(∀ x,z.a=some x→SB w x.block∧x.block<w.heap.size)→z.n=m.1∧Sl w' z.a z.m z.c (sv m.2)∧m.2.length≤1000000∧∀ x,z.a=some x→SB w' x.block∧x.block<w'.heap.size:=fun z m k1 k2 k3 k4=>by
  have e:∀ x,z.a=some x→w'.heap[x.block]?=w.heap[x.block]?:=fun x ex=>g.block _ (k4 x ex).2 (own_typ h.own (k4 x ex).1)
  exact ⟨k1,k2.kept (fun _ x ex=>e x ex),k3,fun x ex=>⟨(k4 x ex).1.kept (e x ex),Nat.lt_of_lt_of_le (k4 x ex).2 g.size⟩⟩
 refine ⟨o,by rw [List.length_append,List.length_append,h.len];rfl,fun i z m hz hm=>?_⟩
 by_cases c:i<ys.length
 ·rw [List.getElem?_append_left c] at hz
  rw [List.getElem?_append_left (by rw [← h.len];exact c)] at hm
  obtain ⟨a1,a2,a3,a4⟩:=h.el i z m hz hm
  exact k z m a1 a2 a3 a4
 ·have hi:=lt_of_some hz
  rw [List.length_append] at hi
  have e:i=ys.length:=by have:[y].length=1:=rfl;omega
  subst e
  rw [List.getElem?_append_right (Nat.le_refl _)] at hz
  rw [List.getElem?_append_right (by rw [h.len];exact Nat.le_refl _)] at hm
  simp at hz
  rw [h.len] at hm
  simp at hm
  subst hz hm
  exact k _ _ h1 h2 h3 h4
def LsP (L:List Ln) (w:World) (e:Ending) (w':World):Prop:=∃ v,e=.returned v∧Below w.heap.size w w'∧((L=[]∧v=.slice none 0 0)∨∃ g cap ys,v=.slice (some ⟨g,0,none⟩) ys.length cap∧Lw w' g cap ys L∧w.heap.size≤g)
theorem Lq.lw {w0 w:World} {v:Value} {ys:List N2} {L:List Ln} (h:Lq w (w0.heap.size+1) v ys L) (b:Below w0.heap.size w0 w):LsP L w0 (.returned v) w:=by
 refine ⟨v,rfl,b,?_⟩
 rcases h.own.2 with ⟨h1,h2⟩ | ⟨g,cap,cur,rfl,hb,hg,hn,hm,hs,ht⟩
 ·exact Or.inl ⟨List.length_eq_zero_iff.1 (by rw [← h.len];exact h2),h1⟩
 ·refine Or.inr ⟨g,cap,ys,rfl,⟨⟨cur,⟨hg,hs,hm⟩,ht⟩,h.len,hn,fun i y l hy hl=>?_⟩,by omega⟩
  obtain ⟨a1,a2,a3,a4⟩:=h.el i y l hy hl
  exact ⟨a1,a2,a3,fun x e=>⟨fun e2=>own_typ h.own (a4 x e).1 (by rw [e2];rfl),(a4 x e).2⟩⟩
theorem namR_len (ks:List Tr) (nm:ByteArray) (hn:nodL ks≤90000):(namR ks nm).length≤1000000:=by
 unfold namR
 cases h:ks.find? (fun k=>eqB k.op ⟨#[114,117,108,101]⟩ && eqB k.name nm) with
 | none=>exact Nat.zero_le _
 | some d =>
  show (srtN (lookAll (rnF ks) d)).length≤_
  have h1:(srtN (lookAll (rnF ks) d)).length≤(lookAll (rnF ks) d).length:=by
   rw [srtN_len]
   unfold srtB
   refine Nat.le_trans (Lib.compact_length_le _) ?_
   rw [List.length_mergeSort,List.length_map]
   exact Nat.le_refl _
  have h2:∀ l:List Tr,(l.flatMap (lookT (rnF ks) [])).length≤nodL l:=by
   intro l
   induction l with
   | nil=>simp
   | cons x l ih =>
    rw [List.flatMap_cons,List.length_append,nodL]
    have:=look_len (rnF ks) [] x
    omega
  have h3:nodT d≤nodL ks:=by
   have:=List.mem_of_find?_eq_some h
   clear h h1 h2
   induction ks with
   | nil=>simp at this
   | cons x l ih =>
    rw [nodL]
    rcases List.mem_cons.1 this with rfl | this
    ·omega
    ·have:=ih (by rw [nodL] at hn;omega) this;omega
  have h4:nodL d.kids≤nodT d:=by obtain ⟨o,n,k,m,a,kids⟩:=d;rw [nodT];show nodL kids≤_;omega
  have:=h2 d.kids
  unfold lookAll at h1 ⊢
  omega
structure LqI (w wr:World) (S:Nat→Prop) (t:Tr) (sa:Option Addr) (sc:Nat) (a:Option Addr) (fs:List (ByteArray × Nat)) (i:Nat) (rv:Value) (ys:List N2):Prop where
 lq:Lq wr (w.heap.size+1) rv ys ((fs.take i).map fun f=>(f.1,namR t.kids f.1))
 bx:B6 wr w.heap.size (.string t.op) (.string t.name) (.int .i64 (t.kind:Nat)) (.int .i64 t.n) (.int .i64 (t.pl:Nat)) (.slice sa t.kids.length sc)
 nd:Nd wr (fun g=>S g∧g<w.heap.size) (.slice sa t.kids.length sc) t.kids
 fw:Fw wr a fs
 ty:∀ x,a=some x→x.block<wr.heap.size∧∀ cs fr,wr.heap[x.block]?≠some (.cells cs 84 fr)
 bl:Below w.heap.size w wr
theorem own_ty {w:World} {B:Nat} {v:Value} {n:Nat} {xs:List Value} {a:Option Addr} {m c:Nat} (h:w.ownsRow B 126 2 v n xs) (e:v=.slice a m c):∀ x,a=some x→∀ cs fr,w.heap[x.block]?≠some (.cells cs 84 fr):=by
 intro x ex cs fr hh
 rcases h.2 with ⟨h1,_⟩ | ⟨g,cap,cur,hv,_,hg,_⟩
 ·rw [e,ex] at h1;cases h1
 ·rw [e,ex] at hv
  injection hv with hv
  injection hv with hv
  subst hv
  rw [hg] at hh
  injection hh with hh
  injection hh with _ hh _
  revert hh
  decide
theorem own_tn {w:World} {B:Nat} {v:Value} {n:Nat} {xs:List Value} (h:w.ownsRow B 84 2 v n xs) {i:Nat} (ht:∀ cs fr,w.heap[i]?≠some (.cells cs 84 fr)):some i≠v.ownBlock:=by
 intro e
 rcases h.2 with ⟨h1,_⟩ | ⟨g,cap,cur,rfl,_,hg,_⟩
 ·subst h1;cases e
 ·simp [Value.ownBlock] at e
  subst e
  exact ht _ _ hg
set_option maxRecDepth 100000 in
set_option maxHeartbeats 8000000 in
theorem leans_any (t : Tr) (hg : ∀ k, k ∈ t.kids → GD k) (hl : t.kids.length ≤ 10000) (hn : nodT t ≤ 90000) (S : Nat → Prop) (w : World) (v : Value) (hd : Nd w S v t.kids) :
    Calls Tryz.prog 44 #[.agg #[.string t.op, .string t.name, .int .i64 (t.kind : Nat), .int .i64 t.n, .int .i64 (t.pl : Nat), v]] w fun e w' => LsP (leansF t.kids) w e w' := by
  obtain ⟨sa, sc, rfl⟩ := hd.lenY
  have B1 := hid (show Below w.heap.size w (w.alloc (.cells #[.string t.op, .string t.name, .int .i64 (t.kind : Nat), .int .i64 t.n, .int .i64 (t.pl : Nat), .slice sa t.kids.length sc] 26)) from (Below.refl _ _).alloc (Nat.le_refl _) _)
  have X1 := hid (B6.new w 26 (.string t.op) (.string t.name) (.int .i64 (t.kind : Nat)) (.int .i64 t.n) (.int .i64 (t.pl : Nat)) (.slice sa t.kids.length sc))
  have N1 := hid (hd.keep (S' := fun g => S g ∧ g < w.heap.size) fun g s l => ⟨⟨s, l⟩, B1.out.block g l⟩)
  have FL := hid (show (fldF ⟨#[114, 117, 108, 101]⟩ t.kids).length ≤ 10000 from by unfold fldF; rw [List.length_map]; exact Nat.le_trans (List.length_filter_le _ _) hl)
  have LE := hid (show leansF t.kids = (fldF ⟨#[114, 117, 108, 101]⟩ t.kids).map fun f => (f.1, namR t.kids f.1) from by unfold leansF rnF; rw [List.map_map]; rfl)
  have NL := hid (fun nm => namR_len t.kids nm (by have : nodT t = 1 + nodL t.kids := by obtain ⟨o, n, k, m, a, kids⟩ := t; rfl
                                                   omega))
  have HG := hid hg
  have HL := hid hl
  have HN := hid hn
  rw [LE.out]
  obtain ⟨fs, hfs⟩ : ∃ fs, fldF ⟨#[114, 117, 108, 101]⟩ t.kids = fs := ⟨_, rfl⟩
  rw [hfs] at FL ⊢
  have HF := hid hfs
  clear hd hg hl hn LE hfs
  go_enter Tryz.func44, Tryz.ntmps44
  go_upto_region 2 with fail
  generalize World.alloc w _ = w1 at *
  have KR := hid (Rules_any t _ w1 (.slice sa t.kids.length sc) N1.out HL.out)
  unfold FsP at KR
  rw [HF.out] at KR
  obtain ⟨x0, x1, x2, x3, x4, x5, xz⟩ := X1.out
  go_upto_region 3 with (go_at_call 98; (with_reducible refine Calls.mono KR.out ?_); rintro e w4 ⟨vr, rfl, o4, b4⟩; have B4 := hid b4; obtain ⟨ra, rc, rfl, fw4, al4⟩ := own_fw o4; have FW := hid fw4; have AL := hid al4; have TY := hid (own_ty o4 rfl); clear b4 o4 fw4 al4)
  clear x0 x1 x2 x3 x4 x5 xz KR
  have I0 := hid (show LqI w w4 S t sa sc ra fs 0 (.slice none 0 0) [] from ⟨Lq.nil _ _, X1.out.next B4.out, N1.out.gwY B4.out, FW.out, fun x e => ⟨AL.out x e, TY.out x e⟩, nextB B1.out B4.out⟩)
  have fl : (fs.length : Int) ≤ 10000 := by have := FL.out; omega
  clear X1 N1 FW AL TY B1 B4
  go_loopg [9, 3, 5] (fs.length) (fun g iv rv jv wr => ∃ (i : Nat) (ys : List N2), i ≤ fs.length ∧ g = fs.length - i ∧ iv = .int .i64 (i : Nat) ∧ Hid (LqI w wr S t sa sc ra fs i rv ys))
  case atStart => exact ⟨0, [], Nat.zero_le _, rfl, rfl, I0.out⟩
  case round =>
    obtain ⟨rv, erv⟩ : ∃ x, x = u3 := ⟨_, rfl⟩
    subst erv
    obtain ⟨i, ys, hi, rfl, rfl, II⟩ := hrel
    by_cases qi : i < fs.length
    · have qi' : (i : Int) < (fs.length : Int) := by omega
      obtain ⟨f, hf⟩ : ∃ f, fs[i]? = some f := ⟨_, List.getElem?_eq_getElem qi⟩
      obtain ⟨g, ea, c0, c1⟩ := II.out.fw i f hf
      subst ea
      have TK := hid (show ((fs.take (i + 1)).map fun f => (f.1, namR t.kids f.1)) = ((fs.take i).map fun f => (f.1, namR t.kids f.1)) ++ [(f.1, namR t.kids f.1)] from by
        obtain ⟨h1, h2⟩ := List.getElem?_eq_some_iff.1 hf
        rw [← h2, show fs.take (i + 1) = fs.take i ++ [fs[i]] from (List.take_append_getElem h1).symm, List.map_append]; rfl)
      have YL := hid (show ys.length = i from by rw [II.out.lq.len, List.length_map, List.length_take]; omega)
      have B3 := hid (show Below wr.heap.size wr (wr.alloc (.cells #[.string f.1, .int .i64 (f.2 : Nat)] 126)) from (Below.refl _ _).alloc (Nat.le_refl _) _)
      have C3 := hid (show (wr.alloc (.cells #[.string f.1, .int .i64 (f.2 : Nat)] 126)).cell? ⟨wr.heap.size, 0, none⟩ = some (.string f.1) from by simp)
      have TX := hid (show ∀ cs fr, (wr.alloc (.cells #[.string f.1, .int .i64 (f.2 : Nat)] 126)).heap[wr.heap.size]? ≠ some (.cells cs 84 fr) from fun cs fr e => by rw [heap_alloc_new] at e; injection e with e; injection e with _ e _; revert e; decide)
      have L3 := hid (II.out.lq.next B3.out)
      have X3 := hid (II.out.bx.next B3.out)
      have N3 := hid (II.out.nd.gwY B3.out)
      have W3 := hid (II.out.fw.next B3.out)
      have T3 := hid (show ∀ x, (some ⟨g, 0, none⟩ : Option Addr) = some x → x.block < (wr.alloc (.cells #[.string f.1, .int .i64 (f.2 : Nat)] 126)).heap.size ∧ ∀ cs fr, (wr.alloc (.cells #[.string f.1, .int .i64 (f.2 : Nat)] 126)).heap[x.block]? ≠ some (.cells cs 84 fr) from fun x e => ⟨Nat.lt_of_lt_of_le (II.out.ty x e).1 B3.out.size, by rw [B3.out.block _ (II.out.ty x e).1]; exact (II.out.ty x e).2⟩)
      have A3 := hid (nextB II.out.bl B3.out)
      clear II
      go_upto_region 5 with fail
      clear c0 c1
      generalize World.alloc wr _ = w3 at *
      generalize wr.heap.size = xb at *
      have DZ := hid (show Below w3.heap.size w3 w3.drew from (Below.refl _ _).drew)
      refine wp_region_held_drew (S := fun W => B6 W w.heap.size (.string t.op) (.string t.name) (.int .i64 (t.kind : Nat)) (.int .i64 t.n) (.int .i64 (t.pl : Nat)) (.slice sa t.kids.length sc) ∧ W.cell? ⟨xb, 0, none⟩ = some (.string f.1)) (by kernel_rfl) ⟨X3.out.next DZ.out, celB DZ.out C3.out⟩ (fun hHeld => ?_)
      refine tk 0 (rv) 13 rfl rfl rfl (by kernel_rfl) (fun _ _ _ h => h) (by rfl) hHeld ?_ ?_
      · (intro W hW; (try dsimp only at hW); go_simp)
      try simp only [Act.put, List.setIfInBounds_toArray, List.set_cons_zero, List.set_cons_succ]
      refine tk 1 (.pointer (some ⟨xb, 0, none⟩)) 14 rfl rfl rfl (by kernel_rfl) (fun _ _ _ h => h) (by rfl) hHeld ?_ ?_
      · (intro W hW; (try dsimp only at hW); go_simp)
      try simp only [Act.put, List.setIfInBounds_toArray, List.set_cons_zero, List.set_cons_succ]
      refine tk 2 (.string f.1) 15 rfl rfl rfl (by kernel_rfl) (fun _ _ _ h => h) (by rfl) hHeld ?_ ?_
      · (intro W hW; (try dsimp only at hW); have c0 := hW.2; go_simp)
      try simp only [Act.put, List.setIfInBounds_toArray, List.set_cons_zero, List.set_cons_succ]
      refine tk 3 (.agg #[.string t.op, .string t.name, .int .i64 (t.kind : Nat), .int .i64 t.n, .int .i64 (t.pl : Nat), .slice sa t.kids.length sc]) 16 rfl rfl rfl (by kernel_rfl) (fun _ _ _ h => h) (by rfl) hHeld ?_ ?_
      · (intro W hW; (try dsimp only at hW); obtain ⟨x0, x1, x2, x3, x4, x5, xz⟩ := hW.1; go_simp)
      try simp only [Act.put, List.setIfInBounds_toArray, List.set_cons_zero, List.set_cons_succ]
      refine tk 4 (.pointer (some ⟨xb, 0, none⟩)) 17 rfl rfl rfl (by kernel_rfl) (fun _ _ _ h => h) (by rfl) hHeld ?_ ?_
      · (intro W hW; (try dsimp only at hW); go_simp)
      try simp only [Act.put, List.setIfInBounds_toArray, List.set_cons_zero, List.set_cons_succ]
      refine tk 5 (.string f.1) 18 rfl rfl rfl (by kernel_rfl) (fun _ _ _ h => h) (by rfl) hHeld ?_ ?_
      · (intro W hW; (try dsimp only at hW); have c0 := hW.2; go_simp)
      try simp only [Act.put, List.setIfInBounds_toArray, List.set_cons_zero, List.set_cons_succ]
      have KN := hid (Names_any t HG.out HL.out HN.out f.1 _ w3.drew _ (N3.out.gwY DZ.out))
      unfold NmP at KN
      generalize w3.drew = wz at *
      refine wpAnyH_ready (rs := [6]) (by kernel_rfl) (by simp) ?_
      refine cons2 rfl rfl (fun K9 hK => ?_)
      go_simp
      refine Calls.mono KN.out ?_
      rintro e w5 ⟨v5, rfl, o5, b5⟩
      obtain ⟨na, nc, e5⟩ := own_slice o5.row
      rw [sv_len] at e5
      subst e5
      have O5 := hid (show Sl w5 na (namR t.kids f.1).length nc (sv (namR t.kids f.1)) ∧ ∀ x, na = some x → SB w5 x.block ∧ x.block < w5.heap.size from by
        obtain ⟨a2, c2', ea, s, k, _⟩ := o5.sl
        rw [sv_len] at ea s
        injection ea with ea1 _ ea2
        subst ea1 ea2
        exact ⟨s, fun x e => ⟨(o5.sb x e).1, (k x e).2⟩⟩)
      have B5 := hid (nextB DZ.out b5)
      clear o5 b5
      go_wp2_with fail
      refine hK.out _ _ ⟨X3.out.next B5.out, celB B5.out C3.out⟩ (fun hX => ?_)
      clear hK K9 hHeld
      have hHeld := hX
      clear hX
      try simp only [Act.put, List.setIfInBounds_toArray, List.set_cons_zero, List.set_cons_succ]
      refine tk 7 (.agg #[.string f.1, .slice na (namR t.kids f.1).length nc]) 20 rfl rfl rfl (by kernel_rfl) (fun _ _ _ h => h) (by rfl) hHeld ?_ ?_
      · (intro W hW; (try dsimp only at hW); go_simp)
      try simp only [Act.put, List.setIfInBounds_toArray, List.set_cons_zero, List.set_cons_succ]
      have BA := hid (show Below w5.heap.size w5 (w5.alloc (.cells #[.string f.1, .slice na (namR t.kids f.1).length nc] 84)) from (Below.refl _ _).alloc (Nat.le_refl _) _)
      have B6' := hid (nextB B5.out BA.out)
      refine wpAnyH_ready (rs := [8]) (by kernel_rfl) (by simp) ?_
      refine cons2 rfl rfl (fun K9 hK => ?_)
      go_simp
      (try go_wp2_with fail)
      refine hK.out _ _ ⟨X3.out.next B6'.out, celB B6'.out C3.out⟩ (fun hX => ?_)
      clear hK K9 hHeld
      have hHeld := hX
      clear hX
      try simp only [Act.put, List.setIfInBounds_toArray, List.set_cons_zero, List.set_cons_succ]
      have L6 := hid ((L3.out.next B5.out).next BA.out)
      have S6 := hid (O5.out.1.below BA.out)
      have T6 := hid (show ∀ x, na = some x → SB (w5.alloc (.cells #[.string f.1, .slice na (namR t.kids f.1).length nc] 84)) x.block ∧ x.block < (w5.alloc (.cells #[.string f.1, .slice na (namR t.kids f.1).length nc] 84)).heap.size from fun x e => ⟨(O5.out.2 x e).1.kept (BA.out.block _ (O5.out.2 x e).2), Nat.lt_of_lt_of_le (O5.out.2 x e).2 BA.out.size⟩)
      have C6 := hid (B2.new w5 ⟨f.1, na, (namR t.kids f.1).length, nc⟩)
      clear O5
      refine wpAnyH_ready (rs := [9]) (by kernel_rfl) (by simp) ?_
      refine cons2 rfl rfl (fun K9 hK => ?_)
      refine step_addL (by rfl) (.tmp 13) (.tmp 21) (by rfl) (w.heap.size + 1) rv ys ⟨f.1, na, (namR t.kids f.1).length, nc⟩ (by rfl) L6.out.own w5.heap.size (by rfl) C6.out (by have := YL.out; have := FL.out; omega) (by have := (nextB A3.out B6'.out).size; have := X3.out.lt; have := B6'.out.size; omega) ?_
      intro v7 w7 o7 g7 n7
      have LN := hid (L6.out.add ⟨f.1, na, (namR t.kids f.1).length, nc⟩ (f.1, namR t.kids f.1) rfl S6.out (NL.out f.1) T6.out o7 g7)
      have G7 := hid g7
      have O7 := hid L6.out.own
      have BW := hid (nextB A3.out B6'.out)
      have B7 := hid (grB BW.out g7 BW.out.size (fun i e => by have := (L6.out.own.lt i e).1; omega))
      have LB := hid (fun i e => (L6.out.own.lt i e).1)
      have X7 := hid ((X3.out.next B6'.out).grown g7 (fun e => by have := (L6.out.own.lt _ e.symm).1; omega))
      have XT := hid (show ∀ x, x < w3.heap.size → (∀ cs fr, w3.heap[x]? ≠ some (.cells cs 84 fr)) → w7.heap[x]? = w3.heap[x]? from fun x hx hn => (g7.block x (Nat.lt_of_lt_of_le hx B6'.out.size) (own_tn L6.out.own (fun cs fr => by rw [B6'.out.block x hx]; exact hn cs fr))).trans (B6'.out.block x hx))
      have C7 := hid ((World.cell?_of_block (a := ⟨xb, 0, none⟩) (XT.out xb (World.block_lt_of_cell? _ _ C3.out) TX.out)).trans C3.out)
      have N7 := hid (((N3.out.gwY B5.out).gwY BA.out).keep (S' := fun g => S g ∧ g < w.heap.size) (fun g s l => ⟨s, g7.block g l (fun e => by have := (L6.out.own.lt _ e.symm).1; have := s.2; omega)⟩))
      have W7 := hid (W3.out.kept (fun x e => XT.out x.block (T3.out x e).1 (T3.out x e).2))
      have T7 := hid (show ∀ x, (some ⟨g, 0, none⟩ : Option Addr) = some x → x.block < w7.heap.size ∧ ∀ cs fr, w7.heap[x.block]? ≠ some (.cells cs 84 fr) from fun x e => ⟨Nat.lt_of_lt_of_le (T3.out x e).1 (Nat.le_trans B6'.out.size g7.size), by rw [XT.out x.block (T3.out x e).1 (T3.out x e).2]; exact (T3.out x e).2⟩)
      clear o7 g7 n7
      refine hK.out _ _ ⟨X7.out, C7.out⟩ (fun hX => ?_)
      clear hK K9 hHeld
      have hHeld := hX
      clear hX
      try simp only [Act.put, List.setIfInBounds_toArray, List.set_cons_zero, List.set_cons_succ]
      refine tk 10 (v7) 3 rfl rfl rfl (by kernel_rfl) (fun _ _ _ h => h) (by rfl) hHeld ?_ ?_
      · (intro W hW; (try dsimp only at hW); go_simp)
      try simp only [Act.put, List.setIfInBounds_toArray, List.set_cons_zero, List.set_cons_succ]
      refine wpAnyH_done (by kernel_rfl) ?_ _
      go_wp2
      go_roundg (fs.length - (i + 1))
      case measure => omega
      case rel => exact ⟨i + 1, _, by omega, rfl, by rw [Int.natCast_add]; rfl, by rw [TK.out]; exact LN.out, X7.out, N7.out, W7.out, T7.out, B7.out⟩
    · have qi' : ¬ (i : Int) < (fs.length : Int) := by omega
      have TK := hid (show fs.take i = fs from List.take_of_length_le (by omega))
      have LQ := hid (show Lq wr (w.heap.size + 1) rv ys (fs.map fun f => (f.1, namR t.kids f.1)) from by have := II.out.lq; rw [TK.out] at this; exact this)
      go_wp2_with fail
      go_returns
      exact LQ.out.lw II.out.bl
end Go.Proofs.YteknljnjcoehoaaGreatDoor
