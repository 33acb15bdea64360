/- Parts of the proof. -/
import Derived.Test.YtonmdlhlkacppaaDoorKa
import Derived.Test.YtonmdlhlkacppaaDoorKb
import Derived.Test.YtonmdlhlkacppaaDoorKc
import Derived.Test.YtonmdlhlkacppaaDoorKe
import Derived.BigQuiet
import Derived.Deep.RegionHeld3
namespace Go.Proofs.YtonmdlhlkacppaaDoor
open Go.RowKit
set_option linter.unusedVariables false
set_option linter.unusedSimpArgs false
set_option maxRecDepth 100000 in
set_option maxHeartbeats 8000000 in
theorem of_sum (p:Nat) (t:Tr) (sl:Value) (ls:List ByteArray) (hls:ls.length≤99) (nm:ByteArray) (kd:Nat) (n:Int) (pl:Nat) (x y:Tr) (hx:OfC p t sl ls x) (hy:OfC p t sl (ls ++ [nm]) y) (hn:t.kids.length≤10000):OfC p t sl ls (.nd ⟨#[115,117,109]⟩ nm kd n pl [x,y]):=by
 intro S S2 w la lc ka kc v hS hS2 h hd
 simp only [tr_op9,tr_name9,tr_kind9,tr_n9,tr_pl9,tr_kids9] at hd ⊢
 obtain ⟨sa,sm,sc,rfl⟩:=hd.slice
 have B1:=hid (show Below w.heap.size w (w.alloc (.cells #[.string ⟨#[115,117,109]⟩,.string nm,.int .i64 (kd:Nat),.int .i64 n,.int .i64 (pl:Nat),.slice sa sm sc] 29)) from (Below.refl _ _).alloc (Nat.le_refl _) _)
 have X1:=hid (B6.new w 29 (.string ⟨#[115,117,109]⟩) (.string nm) (.int .i64 (kd:Nat)) (.int .i64 n) (.int .i64 (pl:Nat)) (.slice sa sm sc))
 have SC:=hid (sum11 p t sl ls hls nm kd n pl x y hx hy hn S S2 _ la lc ka kc _ hS hS2 (h.next B1.out) (hd.gwY B1.out))
 unfold OfP at SC ⊢
 generalize chk t.kids [] ls.reverse (.nd ⟨#[115,117,109]⟩ nm kd n pl [x,y])=R at *
 clear h hd hS hS2 hx hy hls hn
 go_enter Tryd.func30,Tryd.ntmps30
 go_upto_region 1 with fail
 generalize World.alloc w _=w1 at *
 obtain ⟨x0,x1,x2,x3,x4,x5,xz⟩:=X1.out
 go_wp2_with (go_at_call 47;(with_reducible refine Calls.mono SC.out ?_);rintro e w4 ⟨rfl,h4,g4⟩;obtain ⟨la2,lc2,ka2,kc2,c4,f3,f4⟩:=h4;have C4:=hid c4;have F3:=hid f3;have F4:=hid f4;have G4:=hid g4;clear c4 f3 f4 g4)
 go_returns
 exact ⟨rfl,ofE C4.out ((Fr.refl w la).trans F3.out B1.out.size) ((Fr.refl w ka).trans F4.out B1.out.size),((Gr.refl w p).below B1.out).trans G4.out⟩
theorem of_good (p:Nat) (t:Tr) (sl:Value) (hg:∀ k,k ∈ t.kids→GD k) (hn:t.kids.length≤10000) {m:Nat} {e:Tr} (h:GE m e):∀ ls:List ByteArray,ls.length+m≤99→OfC p t sl ls e:=by
 have idx2:∀ {x y k:Tr} {i:Nat},[x,y][i]?=some k→k=x∨k=y:=by
  intro x y k i h
  match i,h with
  | 0,h=>simp at h;exact Or.inl h.symm
  | 1,h=>simp at h;exact Or.inr h.symm
  | i+2,h=>simp at h
 have idx1:∀ {x k:Tr} {i:Nat},[x][i]?=some k→k=x:=by
  intro x k i h
  match i,h with
  | 0,h=>simp at h;exact h.symm
  | i+1,h=>simp at h
 induction h with
 | lit m t' h =>
  intro ls hl
  obtain ⟨kind,n,a,h1,h5,rfl⟩:=h
  exact of_lit p t sl ls (by omega) _ _ _ _ h1 h5 [] rfl (fun i k e=>by simp at e)
 | name m nm a =>
  intro ls hl
  exact of_name p t sl ls (by omega) _ _ _ _ hg hn [] rfl (fun i k e=>by simp at e)
 | bin m op a x y ho hx hy ix iy =>
  intro ls hl
  have hk:∀ (i:Nat) (k:Tr),[x,y][i]?=some k→OfC p t sl ls k:=fun i k e=>by
   rcases idx2 e with rfl | rfl
   ·exact ix ls hl
   ·exact iy ls hl
  simp only [ops12,List.mem_cons,List.not_mem_nil,or_false] at ho
  rcases ho with (rfl | rfl | rfl | rfl | rfl | rfl | rfl | rfl | rfl | rfl | rfl | rfl) | rfl | rfl
  all_goals exact of_two p t sl ls (by omega) _ (by simp [ops14,sMin,sMax]) rfl ((eqL _ _).trans rfl) ((eqL _ _).trans rfl) ((eqL _ _).trans rfl) ((eqL _ _).trans rfl) ((eqL _ _).trans rfl) ((eqL _ _).trans rfl) _ _ _ _ [x,y] rfl hk
 | un m op a x ho hx ix =>
  intro ls hl
  have hk:∀ (i:Nat) (k:Tr),[x][i]?=some k→OfC p t sl ls k:=fun i k e=>by rw [idx1 e];exact ix ls hl
  rcases ho with rfl | rfl | rfl
  ·exact of_neg p t sl ls (by omega) _ _ _ _ [x] rfl hk
  ·exact of_not p t sl ls (by omega) _ _ _ _ [x] rfl hk
  ·exact of_len p t sl ls (by omega) _ _ _ _ [x] rfl hk
 | at_ m nm a x hx ix =>
  intro ls hl
  exact of_at p t sl ls (by omega) _ _ _ _ hg hn [x] rfl (fun i k e=>by rw [idx1 e];exact ix ls hl)
 | iff m a x y z hx hy hz ix iy iz =>
  intro ls hl
  refine of_if p t sl ls (by omega) _ _ _ _ [x,y,z] rfl (fun i k e=>?_)
  match i,e with
  | 0,e=>simp at e;rw [← e];exact ix ls hl
  | 1,e=>simp at e;rw [← e];exact iy ls hl
  | 2,e=>simp at e;rw [← e];exact iz ls hl
  | i+3,e=>simp at e
 | sum m nm a x y hx hy ix iy =>
  intro ls hl
  exact of_sum p t sl ls (by omega) _ _ _ _ x y (ix ls (by omega)) (iy (ls ++ [nm]) (by rw [List.length_append];show ls.length+1+m≤99;omega)) hn
theorem Ck.new (w:World) (T:TypeId) (t:Tr) (sl la ki:Value):Ck (w.alloc (.cells #[.string t.op,.string t.name,.int .i64 (t.kind:Nat),.int .i64 t.n,.int .i64 (t.pl:Nat),sl,la,ki,.int .i64 (-1)] T)) w.heap.size t sl la ki none :=
 ⟨by simp,by simp,by simp,by simp,by simp,by simp,by simp,by simp,by simp [bd],fun i=>by simp⟩
theorem gr_below {w w1 w':World} {p:Nat} (b:Below w.heap.size w w1) (g:Gr w1 w' p) (h:w.heap.size≤p):Below w.heap.size w w' :=
 ⟨g.os.trans b.os,g.tape.trans b.tape,g.output.trans b.output,Nat.le_trans b.size g.size,fun i hi=>(g.bl (Nat.lt_of_lt_of_le hi b.size) (by omega)).trans (b.block i hi)⟩
theorem cq_new (w:World) (T:TypeId) (t:Tr) (S:Nat→Prop) (sl:Value) (h:Nd w S sl t.kids):Cq (w.alloc (.cells #[.string t.op,.string t.name,.int .i64 (t.kind:Nat),.int .i64 t.n,.int .i64 (t.pl:Nat),sl,.slice none 0 0,.slice none 0 0,.int .i64 (-1)] T)) w.heap.size (fun g=>S g∧g<w.heap.size) t sl [] none 0 none 0 none :=
 ⟨Ck.new w T t sl _ _,Sl.empty _,Sl.empty _,fun x e=>(by cases e),fun x e=>(by cases e),h.keep fun g s l=>⟨⟨s,l⟩,((Below.refl _ _).alloc (Nat.le_refl _) _:Below w.heap.size w _).block g l⟩⟩
set_option maxRecDepth 100000 in
set_option maxHeartbeats 8000000 in
theorem of11_any (t e:Tr) (S S2:Nat→Prop) (w:World) (v v2:Value) (hd:Nd w S v t.kids) (hg:∀ k,k ∈ t.kids→GD k) (hn:t.kids.length≤10000) (m:Nat) (he:GE m e) (hm:m≤99) (hde:Nd w S2 v2 e.kids) :
  Calls Tryd.prog 16 #[.agg #[.string t.op,.string t.name,.int .i64 (t.kind:Nat),.int .i64 t.n,.int .i64 (t.pl:Nat),v],.agg #[.string e.op,.string e.name,.int .i64 (e.kind:Nat),.int .i64 e.n,.int .i64 (e.pl:Nat),v2],.slice none 0 0,.slice none 0 0] w fun x w'=>x=.returned (.int .i64 (chk t.kids [] [] e).1)∧Below w.heap.size w w':=by
 obtain ⟨sa,sm,sc,rfl⟩:=hd.slice
 obtain ⟨sb,sn,sd,rfl⟩:=hde.slice
 have A1:=hid (show Below w.heap.size w (w.alloc (.cells #[.string t.op,.string t.name,.int .i64 (t.kind:Nat),.int .i64 t.n,.int .i64 (t.pl:Nat),.slice sa sm sc] 29)) from (Below.refl _ _).alloc (Nat.le_refl _) _)
 have A2:=hid (nextB A1.out (show Below (w.alloc (.cells #[.string t.op,.string t.name,.int .i64 (t.kind:Nat),.int .i64 t.n,.int .i64 (t.pl:Nat),.slice sa sm sc] 29)).heap.size (w.alloc (.cells #[.string t.op,.string t.name,.int .i64 (t.kind:Nat),.int .i64 t.n,.int .i64 (t.pl:Nat),.slice sa sm sc] 29)) ((w.alloc (.cells #[.string t.op,.string t.name,.int .i64 (t.kind:Nat),.int .i64 t.n,.int .i64 (t.pl:Nat),.slice sa sm sc] 29)).alloc (.cells #[.string e.op,.string e.name,.int .i64 (e.kind:Nat),.int .i64 e.n,.int .i64 (e.pl:Nat),.slice sb sn sd] 29)) from (Below.refl _ _).alloc (Nat.le_refl _) _))
 have X1:=hid ((B6.new w 29 (.string t.op) (.string t.name) (.int .i64 (t.kind:Nat)) (.int .i64 t.n) (.int .i64 (t.pl:Nat)) (.slice sa sm sc)).next (show Below (w.alloc (.cells #[.string t.op,.string t.name,.int .i64 (t.kind:Nat),.int .i64 t.n,.int .i64 (t.pl:Nat),.slice sa sm sc] 29)).heap.size (w.alloc (.cells #[.string t.op,.string t.name,.int .i64 (t.kind:Nat),.int .i64 t.n,.int .i64 (t.pl:Nat),.slice sa sm sc] 29)) ((w.alloc (.cells #[.string t.op,.string t.name,.int .i64 (t.kind:Nat),.int .i64 t.n,.int .i64 (t.pl:Nat),.slice sa sm sc] 29)).alloc (.cells #[.string e.op,.string e.name,.int .i64 (e.kind:Nat),.int .i64 e.n,.int .i64 (e.pl:Nat),.slice sb sn sd] 29)) from (Below.refl _ _).alloc (Nat.le_refl _) _))
 have X2:=hid (show B6 ((w.alloc (.cells #[.string t.op,.string t.name,.int .i64 (t.kind:Nat),.int .i64 t.n,.int .i64 (t.pl:Nat),.slice sa sm sc] 29)).alloc (.cells #[.string e.op,.string e.name,.int .i64 (e.kind:Nat),.int .i64 e.n,.int .i64 (e.pl:Nat),.slice sb sn sd] 29)) (w.heap.size+1) (.string e.op) (.string e.name) (.int .i64 (e.kind:Nat)) (.int .i64 e.n) (.int .i64 (e.pl:Nat)) (.slice sb sn sd) from by have q:=B6.new (w.alloc (.cells #[.string t.op,.string t.name,.int .i64 (t.kind:Nat),.int .i64 t.n,.int .i64 (t.pl:Nat),.slice sa sm sc] 29)) 29 (.string e.op) (.string e.name) (.int .i64 (e.kind:Nat)) (.int .i64 e.n) (.int .i64 (e.pl:Nat)) (.slice sb sn sd);rw [show (w.alloc (.cells #[.string t.op,.string t.name,.int .i64 (t.kind:Nat),.int .i64 t.n,.int .i64 (t.pl:Nat),.slice sa sm sc] 29)).heap.size=w.heap.size+1 by simp] at q;exact q)
 have ND:=hid (hd.gwY A2.out)
 have NE:=hid (hde.gwY A2.out)
 have KO:=hid (fun p sl=>of_good p t sl hg hn he [] (by show 0+m≤99;omega))
 generalize hR:chk t.kids [] [] e=R
 have RH:=hid hR
 clear hd hde he hg hn hR A1
 go_enter Tryd.func16,Tryd.ntmps16
 go_upto_region 1 with fail
 generalize World.alloc (World.alloc w _) _=w2 at *
 obtain ⟨x0,x1,x2,x3,x4,x5,xz⟩:=X1.out
 go_upto_region 2 with fail
 clear x0 x1 x2 x3 x4 x5 xz
 have C3:=hid (cq_new w2 68 t S (.slice sa sm sc) ND.out)
 have B3:=hid (show Below w2.heap.size w2 (w2.alloc (.cells #[.string t.op,.string t.name,.int .i64 (t.kind:Nat),.int .i64 t.n,.int .i64 (t.pl:Nat),.slice sa sm sc,.slice none 0 0,.slice none 0 0,.int .i64 (-1)] 68)) from (Below.refl _ _).alloc (Nat.le_refl _) _)
 have X3:=hid (X2.out.next B3.out)
 have KC:=hid (KO.out w2.heap.size (.slice sa sm sc) _ (fun g=>S2 g∧g<w2.heap.size) _ none 0 none 0 _ (fun g s=>by have:=s.2;omega) (fun g s=>by have:=s.2;omega) C3.out (NE.out.keep fun g s l=>⟨⟨s,l⟩,B3.out.block g l⟩))
 unfold OfP at KC
 rw [show ([]:List ByteArray).reverse=[] from rfl,RH.out] at KC
 have B4:=hid (nextB A2.out B3.out)
 have SZ:=hid A2.out.size
 generalize World.alloc w2 _=w3 at *
 generalize w2.heap.size=p at *
 obtain ⟨x0,x1,x2,x3,x4,x5,xz⟩:=X3.out
 go_upto_region 3 with (go_at_call 30;(with_reducible refine Calls.mono KC.out ?_);rintro x w4 ⟨rfl,h4,g4⟩;obtain ⟨la2,lc2,ka2,kc2,c4,f3,f4⟩:=h4;have C4:=hid c4;have B5:=hid (gr_below B4.out g4 SZ.out);clear c4 f3 f4 g4)
 by_cases q:R.1=0
 ·rw [show fO R=some R.2 from if_pos q] at C4
  have c8:w4.cell? ⟨p,8,none⟩=some (.int .i64 (R.2:Nat)):=C4.out.ck.c8
  have zk:(0:Int)≤(R.2:Int):=by omega
  have RQ:=hid q
  clear q
  go_wp2_with fail
  go_returns
  exact ⟨by rw [RQ.out];rfl,B5.out⟩
 ·rw [show fO R=none from if_neg q] at C4
  have c8:w4.cell? ⟨p,8,none⟩=some (.int .i64 (-1)):=C4.out.ck.c8
  clear q
  go_wp2_with fail
  go_returns
  exact ⟨rfl,B5.out⟩
end Go.Proofs.YtonmdlhlkacppaaDoor
