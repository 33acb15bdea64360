/- Parts of the proof. -/
import Derived.Test.YtbeahnehjannpaaDoorKB
import Derived.Laws.AppendOwn
import Derived.Laws.Rows
import Derived.WalkMore
import Derived.Deep.LoopGhost
namespace Go.Proofs.YtbeahnehjannpaaDoor
open Go.RowKit
set_option linter.unusedVariables false
set_option linter.unusedSimpArgs false
theorem dotW_le (l:List UInt8):dotW l≤l.length:=by
 unfold dotW
 split
 ·rename_i h
  have:=runD_le (l.drop 1)
  simp at this
  cases l with
  | nil=>exact absurd h.1 (by decide)
  | cons c l=>simp at this ⊢;omega
 ·omega
theorem numW_len {l:List UInt8} {k n v:Nat} (h:numW l=some (k,n,v)) (hl:runD l≠0):1≤n∧n≤l.length:=by
 have r:=runD_le l
 unfold numW at h
 cases hD:dayW l with
 | some m =>
  rw [hD] at h
  simp at h
  obtain ⟨-,rfl,-⟩:=h
  unfold dayW at hD
  split at hD
  ·simp
  ·cases hD
 | none =>
  rw [hD] at h
  dsimp only at h
  split at h
  ·rename_i hp
   split at h
   ·simp at h
    obtain ⟨-,rfl,-⟩:=h
    unfold isPct at hp
    simp only [decide_eq_true_eq] at hp
    refine ⟨by omega,?_⟩
    rcases Nat.lt_or_ge (runD l+pctW (l.drop (runD l))) l.length with x | x
    ·omega
    ·rw [List.drop_eq_nil_iff.2 x] at hp;exact absurd hp (by decide)
   ·cases h
  ·split at h
   ·simp at h
    obtain ⟨-,rfl,-⟩:=h
    omega
   ·cases h
theorem monW_len {l:List UInt8} {k n v:Nat} (h:monW l=some (k,n,v)):1≤n∧n≤l.length:=by
 unfold monW at h
 split at h
 ·cases h
 ·rename_i hk
  split at h
  ·simp at h
   obtain ⟨-,rfl,-⟩:=h
   have r:=runD_le (l.drop 1)
   have d:=dotW_le (l.drop (1+monK l))
   rw [List.length_drop] at r d
   unfold monP
   have hk':monK l≤l.length - 1:=r
   generalize monK l=K at *
   refine ⟨by omega,?_⟩
   split
   ·rename_i h3
    rw [h3] at d
    omega
   ·omega
  ·cases h
theorem namW_len {c:UInt8} {l:List UInt8} {k n v:Nat} (h:namW (c :: l)=some (k,n,v)) (hc:isLet c=true):1≤n∧n≤(c :: l).length:=by
 unfold namW at h
 split at h
 ·simp at h
  obtain ⟨-,rfl,-⟩:=h
  refine ⟨?_,runN_le _⟩
  unfold runN
  rw [if_pos (by unfold isNm;rw [hc];rfl)]
  omega
 ·cases h
theorem sgnW_len {c:UInt8} {l:List UInt8} {k n v:Nat} (h:sgnW (c :: l)=some (k,n,v)):1≤n∧n≤(c :: l).length:=by
 unfold sgnW at h
 split at h
 ·cases h
 ·rename_i h0
  simp at h
  obtain ⟨-,rfl,-⟩:=h
  refine ⟨by omega,?_⟩
  unfold sgnN
  split
  ·rename_i h2
   cases l with
   | nil=>exact absurd h2 (by unfold two2;simp [hd])
   | cons d l=>simp
  ·split <;> simp
theorem wd_len {l:List UInt8} {k n v:Nat} (h:wd l=some (k,n,v)):1≤n∧n≤l.length:=by
 cases l with
 | nil=>cases h
 | cons c l =>
  change (if isLet c=true then namW (c :: l) else if c.toNat=36 then monW (c :: l) else if isDig c=true then numW (c :: l) else sgnW (c :: l))=_ at h
  split at h
  ·exact namW_len h (by assumption)
  ·split at h
   ·exact monW_len h
   ·split at h
    ·rename_i hd
     exact numW_len h (by unfold runD;rw [if_pos hd];omega)
    ·exact sgnW_len h
theorem runC_le (l:List UInt8):runC l≤l.length:=by
 induction l with
 | nil=>exact Nat.le_refl _
 | cons c l ih =>
  unfold runC
  split
  ·simp
  ·simp;omega
theorem cutG_nil (f a:Nat):cutG f a []=([(0,0,0,a)],none):=by cases f <;> rfl
theorem cutG_fuel (f:Nat):∀ (a:Nat) (l:List UInt8),l.length≤f→cutG f a l=cutG l.length a l:=by
 induction f using Nat.strongRecOn with
 | ind f ih =>
  intro a l h
  cases l with
  | nil=>rw [cutG_nil];rfl
  | cons c l =>
   cases f with
   | zero=>simp at h
   | succ f =>
    have h':l.length≤f:=by simpa using h
    show cutG (f+1) a (c :: l)=cutG (l.length+1) a (c :: l)
    unfold cutG
    by_cases b:isBl c=true
    ·rw [if_pos b,if_pos b]
     exact ih f (by omega) _ _ h'
    ·rw [if_neg b,if_neg b]
     by_cases e:c.toNat=35
     ·rw [if_pos e,if_pos e]
      have r:(List.drop (runC (c :: l)) (c :: l)).length≤l.length:=by
       have:1≤runC (c :: l):=by unfold runC;rw [if_neg (by omega)];omega
       simp;omega
      rw [ih f (by omega) _ _ (by omega)]
      rcases Nat.lt_or_ge l.length f with y | y
      ·rw [ih l.length (by omega) _ _ r]
      ·obtain rfl:f=l.length:=by omega
       rw [ih l.length (by omega) _ _ r]
     ·rw [if_neg e,if_neg e]
      cases hw:wd (c :: l) with
      | none=>rfl
      | some x =>
       obtain ⟨k,n,v⟩:=x
       have hn:=wd_len hw
       have r:(List.drop n (c :: l)).length≤l.length:=by simp;omega
       dsimp only
       rw [ih f (by omega) _ _ (by omega)]
       rcases Nat.lt_or_ge l.length f with y | y
       ·rw [ih l.length (by omega) _ _ r]
       ·obtain rfl:f=l.length:=by omega
        rw [ih l.length (by omega) _ _ r]
theorem cutF_is (s:ByteArray) (a f:Nat) (h:s.size≤a+f):cutG f a (tl s a)=cutF s a:=by
 unfold cutF
 have e:(tl s a).length=s.size - a:=tl_len s a
 rw [cutG_fuel f a _ (by omega),e]
theorem cutF_end {s:ByteArray} {a:Nat} (h:s.size≤a):cutF s a=([(0,0,0,a)],none):=by
 unfold cutF
 rw [tl_nil h]
 exact cutG_nil _ _
theorem cutF_cons {s:ByteArray} {a:Nat} (h:a<s.size):cutF s a=if isBl (bt s a) then cutF s (a+1) else if (bt s a).toNat=35 then cutF s (a+runC (tl s a))
  else match wd (tl s a) with
   | none=>([],some a)
   | some (k,n,v)=>match cutF s (a+n) with
    | (r,none)=>((k,n,v,a) :: r,none)
    | (r,some b)=>([],some b):=by
 have e:s.size - a=(s.size - (a+1))+1:=by omega
 have hc:=tl_cons h
 conv=>lhs;unfold cutF;rw [e,hc]
 unfold cutG
 rw [cutF_is s (a+1) _ (by omega),← hc,tl_drop]
 by_cases b:isBl (bt s a)=true
 ·rw [if_pos b,if_pos b]
 ·rw [if_neg b,if_neg b]
  by_cases x:(bt s a).toNat=35
  ·rw [if_pos x,if_pos x]
   refine cutF_is s _ _ ?_
   have:1≤runC (tl s a):=by rw [hc];unfold runC;rw [if_neg (by omega)];omega
   omega
  ·rw [if_neg x,if_neg x]
   cases hw:wd (tl s a) with
   | none=>rfl
   | some y =>
    obtain ⟨k,n,v⟩:=y
    dsimp only
    rw [tl_drop,cutF_is s _ _ (by have:=wd_len hw;omega)]
    rfl
def Jn (s:ByteArray) (R:List (Nat × Nat × Nat × Nat)) (a:Nat):Prop :=
 match cutF s a with
 | (r,none)=>cutF s 0=(R ++ r,none)
 | (_,some b)=>cutF s 0=([],some b)
theorem Jn.start (s:ByteArray):Jn s [] 0:=by
 unfold Jn
 cases h:cutF s 0 with
 | mk r o =>
  cases o with
  | none=>rfl
  | some b =>
   show (r,some b)=([],some b)
   suffices hh:∀ f a l r b,cutG f a l=(r,some b)→r=[] by rw [hh _ _ _ _ _ h]
   intro f
   induction f with
   | zero=>intro a l r b h;cases h
   | succ f ih =>
    intro a l r b h
    cases l with
    | nil=>cases h
    | cons c l =>
     unfold cutG at h
     split at h
     ·exact ih _ _ _ _ h
     ·split at h
      ·exact ih _ _ _ _ h
      ·split at h
       ·injection h with h1 h2;exact h1.symm
       ·split at h
        ·cases h
        ·injection h with h1 h2;exact h1.symm
theorem Jn.skip {s:ByteArray} {R:List (Nat × Nat × Nat × Nat)} {a b:Nat} (h:Jn s R a) (e:cutF s a=cutF s b):Jn s R b:=by
 unfold Jn at *
 rw [← e]
 exact h
theorem Jn.blank {s:ByteArray} {R:List (Nat × Nat × Nat × Nat)} {a:Nat} (h:Jn s R a) (ha:a<s.size) (b:isBl (bt s a)=true):Jn s R (a+1) :=
 h.skip (by rw [cutF_cons ha,if_pos b])
theorem Jn.hash {s:ByteArray} {R:List (Nat × Nat × Nat × Nat)} {a:Nat} (h:Jn s R a) (ha:a<s.size) (b:(bt s a).toNat=35):Jn s R (a+runC (tl s a)) :=
 h.skip (by rw [cutF_cons ha,if_neg (by unfold isBl;rw [b];decide),if_pos b])
theorem Jn.word {s:ByteArray} {R:List (Nat × Nat × Nat × Nat)} {a k n v:Nat} (h:Jn s R a) (ha:a<s.size) (b:isBl (bt s a)=false) (c:(bt s a).toNat≠35) (hw:wd (tl s a)=some (k,n,v)):Jn s (R ++ [(k,n,v,a)]) (a+n):=by
 have e:=cutF_cons ha
 rw [b,hw,if_neg c] at e
 simp only [Bool.false_eq_true,if_false] at e
 unfold Jn at *
 rw [e] at h
 cases hc:cutF s (a+n) with
 | mk r o =>
  rw [hc] at h
  cases o with
  | none=>simpa using h
  | some q=>exact h
theorem Jn.bad {s:ByteArray} {R:List (Nat × Nat × Nat × Nat)} {a:Nat} (h:Jn s R a) (ha:a<s.size) (b:isBl (bt s a)=false) (c:(bt s a).toNat≠35) (hw:wd (tl s a)=none):cutF s 0=([],some a):=by
 have e:=cutF_cons ha
 rw [b,hw,if_neg c] at e
 simp only [Bool.false_eq_true,if_false] at e
 unfold Jn at h
 rw [e] at h
 exact h
theorem Jn.fin {s:ByteArray} {R:List (Nat × Nat × Nat × Nat)} {a:Nat} (h:Jn s R a) (ha:s.size≤a):cutF s 0=(R ++ [(0,0,0,a)],none):=by
 unfold Jn at h
 rw [cutF_end ha] at h
 exact h
def hpB (l p:List UInt8):Bool:=l.take p.length==p
def sgl:List (List UInt8):=[[60,61],[62,61],[61,61],[33,61],[40],[41],[123],[125],[91],[93],[44],[59],[58],[61],[43],[45],[42],[47],[60],[62]]
def sg (k:Nat):List UInt8:=sgl.getD k []
def Tab (w:World):Prop:=0<w.heap.size∧∀ i,i<20→w.cell? ⟨0,i,none⟩=some (.string (tx (sg i)))
theorem Tab.below {w w':World} {B:Nat} (h:Tab w) (hb:Below B w w') (hB:0<B):Tab w' :=
 ⟨Nat.lt_of_lt_of_le h.1 hb.size,fun i hi=>by rw [hb.cell (p:=⟨0,i,none⟩) hB];exact h.2 i hi⟩
theorem Tab.next {w w':World} (h:Tab w) (hb:Below w.heap.size w w'):Tab w':=h.below hb h.1
theorem hp_1 (l:List UInt8) (p:UInt8) (hp:p≠0):hpB l [p]=decide (hd l=p.toNat):=by
 cases l with
 | nil =>
  have:(0:Nat)≠p.toNat:=fun e=>hp (UInt8.toNat_inj.1 (by rw [← e];rfl))
  show false=decide (0=p.toNat)
  rw [decide_eq_false this]
 | cons c l =>
  show ([c]==[p])=decide (c.toNat=p.toNat)
  rw [Bool.eq_iff_iff]
  simp [UInt8.toNat_inj]
theorem hp_2 (l:List UInt8) (p q:UInt8) (hp:p≠0) (hq:q≠0):hpB l [p,q]=(decide (hd l=p.toNat) && decide (hd (l.drop 1)=q.toNat)):=by
 cases l with
 | nil =>
  have:(0:Nat)≠p.toNat:=fun e=>hp (UInt8.toNat_inj.1 (by rw [← e];rfl))
  show false=(decide (0=p.toNat) && _)
  rw [decide_eq_false this]
  rfl
 | cons c l =>
  cases l with
  | nil =>
   have:(0:Nat)≠q.toNat:=fun e=>hq (UInt8.toNat_inj.1 (by rw [← e];rfl))
   show ([c]==[p,q])=(_ && decide (0=q.toNat))
   rw [decide_eq_false this]
   simp
  | cons d l =>
   show ([c,d]==[p,q])=(decide (c.toNat=p.toNat) && decide (d.toNat=q.toNat))
   rw [Bool.eq_iff_iff]
   simp [UInt8.toNat_inj]
theorem sg_two (l:List UInt8):(∀ j,j<4→hpB l (sg j)=false)→two2 (hd l) (hd (l.drop 1))=false:=by
 intro h
 have h0:=h 0 (by decide)
 have h1:=h 1 (by decide)
 have h2:=h 2 (by decide)
 have h3:=h 3 (by decide)
 change hpB l [60,61]=false at h0
 change hpB l [62,61]=false at h1
 change hpB l [61,61]=false at h2
 change hpB l [33,61]=false at h3
 rw [hp_2 _ _ _ (by decide) (by decide)] at h0 h1 h2 h3
 change (decide (hd l=60) && decide (hd (l.drop 1)=61))=false at h0
 change (decide (hd l=62) && decide (hd (l.drop 1)=61))=false at h1
 change (decide (hd l=61) && decide (hd (l.drop 1)=61))=false at h2
 change (decide (hd l=33) && decide (hd (l.drop 1)=61))=false at h3
 unfold two2
 generalize hd l=a at *
 generalize hd (l.drop 1)=b at *
 simp at *
 intro hb
 refine ⟨⟨⟨fun e=>h0 e hb,fun e=>h1 e hb⟩,fun e=>h2 e hb⟩,fun e=>h3 e hb⟩
theorem sg_at {l:List UInt8} {k:Nat} (hk:k<20) (hn:∀ j,j<k→hpB l (sg j)=false) (hy:hpB l (sg k)=true):sgnN l=(sg k).length:=by
 rcases Nat.lt_or_ge k 4 with c | c
 ·have e:k=0∨k=1∨k=2∨k=3:=by omega
  unfold sgnN
  rcases e with rfl | rfl | rfl | rfl
  ·change hpB l [60,61]=true at hy
   rw [hp_2 _ _ _ (by decide) (by decide)] at hy
   change (decide (hd l=60) && decide (hd (l.drop 1)=61))=true at hy
   simp at hy
   rw [show hd (List.drop 1 l)=61 by simpa using hy.2,hy.1];rfl
  ·change hpB l [62,61]=true at hy
   rw [hp_2 _ _ _ (by decide) (by decide)] at hy
   change (decide (hd l=62) && decide (hd (l.drop 1)=61))=true at hy
   simp at hy
   rw [show hd (List.drop 1 l)=61 by simpa using hy.2,hy.1];rfl
  ·change hpB l [61,61]=true at hy
   rw [hp_2 _ _ _ (by decide) (by decide)] at hy
   change (decide (hd l=61) && decide (hd (l.drop 1)=61))=true at hy
   simp at hy
   rw [show hd (List.drop 1 l)=61 by simpa using hy.2,hy.1];rfl
  ·change hpB l [33,61]=true at hy
   rw [hp_2 _ _ _ (by decide) (by decide)] at hy
   change (decide (hd l=33) && decide (hd (l.drop 1)=61))=true at hy
   simp at hy
   rw [show hd (List.drop 1 l)=61 by simpa using hy.2,hy.1];rfl
 ·have h2:=sg_two l (fun j hj=>hn j (by omega))
  unfold sgnN
  rw [h2]
  simp only [Bool.false_eq_true,if_false]
  have key:∀ i:Fin 20,4≤i.val→∃ p:UInt8,sg i.val=[p]∧p≠0∧one1 p.toNat=true:=by
   intro i hi
   refine ⟨(sg i.val).headD 0,?_⟩
   revert i
   decide
  obtain ⟨p,e1,e2,e3⟩:=key ⟨k,hk⟩ c
  rw [e1,hp_1 _ _ e2] at hy
  rw [of_decide_eq_true hy,e3,e1]
  rfl
theorem sg_none {l:List UInt8} (hn:∀ j,j<20→hpB l (sg j)=false):sgnN l=0:=by
 have h2:=sg_two l (fun j hj=>hn j (by omega))
 unfold sgnN
 rw [h2]
 simp only [Bool.false_eq_true,if_false]
 have key:∀ i:Fin 20,4≤i.val→sg i.val=[(sg i.val).headD 0]∧(sg i.val).headD 0≠0:=by decide
 have ne:∀ i:Fin 20,4≤i.val→hd l≠((sg i.val).headD 0).toNat:=by
  intro i hi e
  have h:=hn i.val i.isLt
  obtain ⟨k1,k2⟩:=key i hi
  rw [k1,hp_1 _ _ k2] at h
  exact of_decide_eq_false h e
 rw [if_neg ?_]
 intro h
 unfold one1 at h
 simp only [Bool.or_eq_true,beq_iff_eq] at h
 have q:∀ i:Fin 20,4≤i.val→hd l=((sg i.val).headD 0).toNat→False:=fun i hi=>ne i hi
 rcases h with ((((((((((((((h | h) | h) | h) | h) | h) | h) | h) | h) | h) | h) | h) | h) | h) | h) | h
 ·exact q ⟨4,by decide⟩ (by decide) h
 ·exact q ⟨5,by decide⟩ (by decide) h
 ·exact q ⟨6,by decide⟩ (by decide) h
 ·exact q ⟨7,by decide⟩ (by decide) h
 ·exact q ⟨8,by decide⟩ (by decide) h
 ·exact q ⟨9,by decide⟩ (by decide) h
 ·exact q ⟨10,by decide⟩ (by decide) h
 ·exact q ⟨11,by decide⟩ (by decide) h
 ·exact q ⟨12,by decide⟩ (by decide) h
 ·exact q ⟨13,by decide⟩ (by decide) h
 ·exact q ⟨14,by decide⟩ (by decide) h
 ·exact q ⟨15,by decide⟩ (by decide) h
 ·exact q ⟨16,by decide⟩ (by decide) h
 ·exact q ⟨17,by decide⟩ (by decide) h
 ·exact q ⟨18,by decide⟩ (by decide) h
 ·exact q ⟨19,by decide⟩ (by decide) h
attribute [local go_sem] Oper.semAt_some
abbrev Wd:=Nat × Nat × Nat × Nat
def wC (s:ByteArray) (x:Wd):List Value:=[.int .i64 (x.1:Nat),.string (s.extract x.2.2.2 (x.2.2.2+x.2.1)),.int .i64 (x.2.2.1:Nat),.int .i64 (x.2.2.2:Nat)]
def wCs (s:ByteArray) (R:List Wd):List Value:=R.flatMap (wC s)
theorem wCs_app (s:ByteArray) (R T:List Wd):wCs s (R ++ T)=wCs s R ++ wCs s T:=by unfold wCs;rw [List.flatMap_append]
theorem wCs_one (s:ByteArray) (x:Wd):wCs s [x]=wC s x:=by unfold wCs;simp
theorem wCs_at (s:ByteArray):∀ (R:List Wd) (i:Nat) (x:Wd) (j:Nat),R[i]?=some x→j<4→(wCs s R)[i*4+j]?=(wC s x)[j]?
 | [],i,x,j,h,hj=>by simp at h
 | y :: R,0,x,j,h,hj=>by
  have e:wCs s (y :: R)=wC s y ++ wCs s R:=rfl
  simp at h
  subst h
  rw [e,List.getElem?_append_left (by show _<4;omega)]
  simp
 | y :: R,i+1,x,j,h,hj=>by
  have e:wCs s (y :: R)=wC s y ++ wCs s R:=rfl
  have l:(wC s y).length=4:=rfl
  rw [e,List.getElem?_append_right (by omega),l,show (i+1)*4+j - 4=i*4+j by omega]
  exact wCs_at s R i x j (by simpa using h) hj
theorem ywordInfo:(Tryd.prog.info? 58).map (fun i=>(i.zero,i.size,i.bytes))=some (some (.agg #[.int .i64 0,.string ⟨#[]⟩,.int .i64 0,.int .i64 0]),4,40):=by kernel_rfl
def Rw (w:World) (base:Nat) (e:TypeId) (s:ByteArray) (v:Value) (R:List Wd):Prop:=w.ownsRow base e 4 v R.length (wCs s R)
theorem Rw.nil (w:World) (base:Nat) (e:TypeId) (s:ByteArray):Rw w base e s (.slice none 0 0) []:=World.ownsRow_nil _ _ _ _
theorem Rw.next {w w':World} {base:Nat} {e:TypeId} {s:ByteArray} {v:Value} {R:List Wd} (h:Rw w base e s v R) (hb:Below w.heap.size w w'):Rw w' base e s v R:=by
 refine ⟨h.1,?_⟩
 rcases h.2 with hn | ⟨g,cap,cur,hv,hg,hk,rest⟩
 ·exact .inl hn
 ·refine .inr ⟨g,cap,cur,hv,hg,?_,rest⟩
  rw [hb.block g (Array.getElem?_eq_some_iff.1 hk).1]
  exact hk
theorem wpList_addY {w:World} {ops:Array Oper} {rest:List Oper} {o:Oper} {a:Act} {Q:Exit→Act→World→Prop} (hgd:o.guard=none) (sl x:Operand)
  (ho:o.op=.call { callee:=.builtin .append,args:=#[sl,x],argTypes:=#[51,51] }) (s:ByteArray) (base:Nat) (v:Value) (R:List Wd) (y:Wd) (hs:a.eval sl=v) (hown:Rw w base 58 s v R)
  (b:Nat) (hx:a.eval x=.slice (some ⟨b,0,none⟩) 1 1) (hc:∀ j u,(wC s y)[j]?=some u→w.cell? ⟨b,j,none⟩=some u) (hl:R.length≤100000) (hbase:base≤w.heap.size)
  (h:∀ v' w',Rw w' base 58 s v' (R ++ [y])→w.grownBy w' v.ownBlock→wpList Tryd.prog ops Q rest (a.put o.dst v') w'):wpList Tryd.prog ops Q (o :: rest) a w:=by
 obtain ⟨i0,hi,hz0,hz1,hz2⟩:=info_parts ywordInfo
 refine wpList_append_own w hgd sl x 51 ho base 58 i0 _ 4 40 Tryd.underlying51 hi hz0 hz1 hz2 rfl (by decide) v R.length (wCs s R) hs hown ⟨b,0,none⟩ 1 1 (wC s y) hx rfl (fun j u hu=>?_) ?_ (by unfold maxLen;omega) (by omega) hbase (fun v' w' h2 h3 _=>?_)
 ·have:=hc j u hu
  cases j with
  | zero=>simpa [Addr.add] using this
  | succ j=>simpa [Addr.add] using this
 ·intro u hu
  simp [wC] at hu
  rcases hu with rfl | rfl | rfl | rfl <;> rfl
 ·refine h v' w' ?_ h3
  unfold Rw
  rw [List.length_append,wCs_app,wCs_one]
  exact h2
theorem Rw.grow {w0 w w':World} {base:Nat} {e:TypeId} {s:ByteArray} {v:Value} {R:List Wd} (h:Rw w base e s v R) (hb:Below w0.heap.size w0 w) (he:w0.heap.size≤base) (hg:w.grownBy w' v.ownBlock):Below w0.heap.size w0 w' :=
 hb.grown hg hb.size (fun k hk=>Nat.le_trans he (World.ownsRow.lt h k hk).1)
theorem X4.wc {w0 w:World} {b:Nat} {v0 v1 v2 v3:Value} {s:ByteArray} {y:Wd} (h:X4 w0 w b v0 v1 v2 v3) (e:wC s y=[v0,v1,v2,v3]):∀ j u,(wC s y)[j]?=some u→w.cell? ⟨b,j,none⟩=some u:=by
 intro j u hu
 rw [e] at hu
 match j,hu with
 | 0,hu=>simp at hu;rw [← hu];exact h.c0
 | 1,hu=>simp at hu;rw [← hu];exact h.c1
 | 2,hu=>simp at hu;rw [← hu];exact h.c2
 | 3,hu=>simp at hu;rw [← hu];exact h.c3
 | j+4,hu=>simp at hu
structure Rd4 (w:World) (v:Value) (s:ByteArray) (R:List Wd) (a:Option Addr) (c b:Nat):Prop where
 v:v=.slice a R.length c
 a:0<R.length→a=some ⟨b,0,none⟩
 c0:∀ i x,R[i]?=some x→w.cell? ⟨b,i*4,none⟩=some (.int .i64 (x.1:Nat))
 c1:∀ i x,R[i]?=some x→w.cell? ⟨b,i*4+1,none⟩=some (.string (s.extract x.2.2.2 (x.2.2.2+x.2.1)))
 c2:∀ i x,R[i]?=some x→w.cell? ⟨b,i*4+2,none⟩=some (.int .i64 (x.2.2.1:Nat))
 c3:∀ i x,R[i]?=some x→w.cell? ⟨b,i*4+3,none⟩=some (.int .i64 (x.2.2.2:Nat))
theorem Rd4.of {w:World} {base:Nat} {e:TypeId} {s:ByteArray} {v:Value} {R:List Wd} (h:Rw w base e s v R):∃ a c b,Rd4 w v s R a c b:=by
 rcases h.2 with ⟨h0,h1⟩ | ⟨g,cap,cur,hv,hb,hg,hn,hm,hs,ht⟩
 ·have e:R=[]:=List.eq_nil_of_length_eq_zero h1
  subst e
  exact ⟨none,0,0,h0,fun q=>by simp at q,fun i x q=>by simp at q,fun i x q=>by simp at q,fun i x q=>by simp at q,fun i x q=>by simp at q⟩
 ·have cell:∀ (j:Nat) (u:Value),(wCs s R)[j]?=some u→w.cell? ⟨g,j,none⟩=some u:=fun j u hu=>by
   have l:=(List.getElem?_eq_some_iff.1 hu).1
   have l2:=h.1
   rw [← ht,List.getElem?_take_of_lt (by omega),Array.getElem?_toList] at hu
   simp [World.cell?,hg,hu]
  exact ⟨_,cap,g,hv,fun _=>rfl,fun i x q=>cell _ _ ((wCs_at s R i x 0 q (by decide)).trans rfl),fun i x q=>cell _ _ ((wCs_at s R i x 1 q (by decide)).trans rfl),fun i x q=>cell _ _ ((wCs_at s R i x 2 q (by decide)).trans rfl),fun i x q=>cell _ _ ((wCs_at s R i x 3 q (by decide)).trans rfl)⟩
theorem Tab.all {w:World} (h:Tab w):w.cell? ⟨0,0,none⟩=some (.string ⟨#[60,61]⟩)∧w.cell? ⟨0,1,none⟩=some (.string ⟨#[62,61]⟩)∧w.cell? ⟨0,2,none⟩=some (.string ⟨#[61,61]⟩)∧w.cell? ⟨0,3,none⟩=some (.string ⟨#[33,61]⟩)∧w.cell? ⟨0,4,none⟩=some (.string ⟨#[40]⟩)∧w.cell? ⟨0,5,none⟩=some (.string ⟨#[41]⟩)∧w.cell? ⟨0,6,none⟩=some (.string ⟨#[123]⟩)∧w.cell? ⟨0,7,none⟩=some (.string ⟨#[125]⟩)∧w.cell? ⟨0,8,none⟩=some (.string ⟨#[91]⟩)∧w.cell? ⟨0,9,none⟩=some (.string ⟨#[93]⟩)∧w.cell? ⟨0,10,none⟩=some (.string ⟨#[44]⟩)∧w.cell? ⟨0,11,none⟩=some (.string ⟨#[59]⟩)∧w.cell? ⟨0,12,none⟩=some (.string ⟨#[58]⟩)∧w.cell? ⟨0,13,none⟩=some (.string ⟨#[61]⟩)∧w.cell? ⟨0,14,none⟩=some (.string ⟨#[43]⟩)∧w.cell? ⟨0,15,none⟩=some (.string ⟨#[45]⟩)∧w.cell? ⟨0,16,none⟩=some (.string ⟨#[42]⟩)∧w.cell? ⟨0,17,none⟩=some (.string ⟨#[47]⟩)∧w.cell? ⟨0,18,none⟩=some (.string ⟨#[60]⟩)∧w.cell? ⟨0,19,none⟩=some (.string ⟨#[62]⟩) :=
 ⟨h.2 0 (by decide),h.2 1 (by decide),h.2 2 (by decide),h.2 3 (by decide),h.2 4 (by decide),h.2 5 (by decide),h.2 6 (by decide),h.2 7 (by decide),h.2 8 (by decide),h.2 9 (by decide),h.2 10 (by decide),h.2 11 (by decide),h.2 12 (by decide),h.2 13 (by decide),h.2 14 (by decide),h.2 15 (by decide),h.2 16 (by decide),h.2 17 (by decide),h.2 18 (by decide),h.2 19 (by decide)⟩

theorem hid {p:Prop} (h:p):Hid p:=h
theorem runC_cons {s:ByteArray} {k:Nat} (h:k<s.size):runC (tl s k)=if (bt s k).toNat=10 then 0 else runC (tl s (k+1))+1:=by
 rw [tl_cons h]
 rfl
theorem wd_let {s:ByteArray} {a:Nat} (h:a<s.size) (hc:leB (bt s a).toNat=true):wd (tl s a)=namW (tl s a):=by
 rw [tl_cons h]
 exact if_pos hc
theorem wd_mon {s:ByteArray} {a:Nat} (h:a<s.size) (hc:leB (bt s a).toNat=false) (hd:((bt s a).toNat:Int)=36):wd (tl s a)=monW (tl s a):=by
 rw [tl_cons h]
 exact (if_neg (by show ¬ leB (bt s a).toNat=true;rw [hc];decide)).trans (if_pos (by omega))
theorem wd_num {s:ByteArray} {a:Nat} (h:a<s.size) (hc:leB (bt s a).toNat=false) (hd:((bt s a).toNat:Int)≠36) (he:dgB (bt s a).toNat=true):wd (tl s a)=numW (tl s a):=by
 rw [tl_cons h]
 exact (if_neg (by show ¬ leB (bt s a).toNat=true;rw [hc];decide)).trans ((if_neg (by omega)).trans (if_pos he))
theorem wd_sgn {s:ByteArray} {a:Nat} (h:a<s.size) (hc:leB (bt s a).toNat=false) (hd:((bt s a).toNat:Int)≠36) (he:dgB (bt s a).toNat=false):wd (tl s a)=sgnW (tl s a):=by
 rw [tl_cons h]
 exact (if_neg (by show ¬ leB (bt s a).toNat=true;rw [hc];decide)).trans ((if_neg (by omega)).trans (if_neg (by show ¬ dgB (bt s a).toNat=true;rw [he];decide)))
theorem ext_nil (s:ByteArray) (a:Nat):s.extract a (a+0)=⟨#[]⟩:=by rw [ext_is,show a+0 - a=0 by omega];rfl
end Go.Proofs.YtbeahnehjannpaaDoor
