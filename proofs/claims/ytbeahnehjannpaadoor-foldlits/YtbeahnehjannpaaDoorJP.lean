/- Parts of the proof. -/
import Derived.Test.YtbeahnehjannpaaDoorJN
import Derived.Test.YtbeahnehjannpaaDoorKK
import Derived.Test.YtbeahnehjannpaaDoorJf
namespace Go.Proofs.YtbeahnehjannpaaDoor
open Go.RowKit
set_option linter.unusedVariables false
set_option linter.unusedSimpArgs false
theorem num_semi {l:List UInt8} (h:∀ c ∈ l,dgB c.toNat=true) (hv:fig 0 l≤4503599627370496) (r:List UInt8):numW (l ++ 59 :: r)=some (3,l.length,fig 0 l):=by
 have r59:runD (59 :: r)=0:=by unfold runD;rw [if_neg (by decide)]
 have q:runD (l ++ 59 :: r)=l.length:=runD_all h _ r59
 have d:=drop_app l (59 :: r)
 have t:=take_app l (59 :: r)
 have e1:dayW (l ++ 59 :: r)=none:=by
  cases x:dayW (l ++ 59 :: r) with
  | none=>rfl
  | some m =>
   obtain ⟨y1,y2⟩:=dayW_some x
   rw [← y1,q,d] at y2
   exact absurd y2 (by show ¬ (59:UInt8).toNat=45;decide)
 have dw:dotW (59 :: r)=0:=if_neg (fun h=>absurd h.1 (by show ¬ (59:UInt8).toNat=46;decide))
 have pw:pctW (59 :: r)=0:=by unfold pctW;rw [dw];rfl
 have e2:isPct (l ++ 59 :: r)=false:=by
  unfold isPct
  rw [q,d,pw,Nat.add_zero,d]
  show decide ((59:UInt8).toNat=37)=false
  decide
 unfold numW
 rw [e1]
 dsimp only
 rw [e2,if_neg (by decide),q,t,if_pos hv]
theorem wd_semi {n:Nat} (h:n≤4503599627370496) (r:List UInt8):wd (dec n ++ 59 :: r)=some (3,(dec n).length,n):=by
 obtain ⟨c,s,e,hc⟩:=dec_head n
 have f:=dec_fig h
 have:wd (dec n ++ 59 :: r)=numW (dec n ++ 59 :: r):=by rw [e];exact wd_dig hc
 rw [this,num_semi (dec_dig n) (by omega),f]
theorem wd_blank {n:Nat} (h:n≤4503599627370496) (r:List UInt8):wd (dec n ++ 32 :: r)=some (3,(dec n).length,n):=by
 obtain ⟨c,s,e,hc⟩:=dec_head n
 have f:=dec_fig h
 have w:wd (dec n)=some (3,(dec n).length,n):=by
  have:wd (dec n)=numW (dec n):=by rw [e];exact wd_dig hc
  rw [this,num_count (dec_dig n) (by omega),f]
 have:=wd_U (r:=r) w
 unfold U at this
 rw [List.take_of_length_le (Nat.le_refl _)] at this
 exact this
theorem cut_wd {s:ByteArray} {a n k v:Nat} {c:UInt8} {l rest:List UInt8} (h:tl s a=c :: l) (hb:isBl c=false) (hh:c.toNat≠35) (hw:wd (c :: l)=some (k,n,v)) (hd:(c :: l).drop n=rest) {R:List Wd} (hr:tl s (a+n)=rest→cutF s (a+n)=(R,none)):cutF s a=((k,n,v,a) :: R,none):=by
 obtain ⟨h1,h2,h3⟩:=tl_lt h
 have hr2:=hr (by rw [← tl_drop,h,hd])
 rw [cutF_cons h1,h2,hb,if_neg hh,h,hw]
 simp only [Bool.false_eq_true,if_false]
 rw [hr2]
theorem cut_bl {s:ByteArray} {a:Nat} {l:List UInt8} (h:tl s a=32 :: l) {R:List Wd} (hr:tl s (a+1)=l→cutF s (a+1)=(R,none)):cutF s a=(R,none):=by
 obtain ⟨h1,h2,h3⟩:=tl_lt h
 rw [cutF_cons h1,h2,if_pos (by decide)]
 exact hr h3
def opL:List (List UInt8):=[[43],[45],[42],[47]]
def SL (o:List UInt8) (a b:Nat):List UInt8:=[114,117,108,101] ++ 32 :: ([114] ++ 32 :: ([99,111,117,110,116] ++ 32 :: ([61] ++ 32 :: (dec a ++ 32 :: (o ++ 32 :: (dec b ++ 59 :: []))))))
theorem cut_SL (o:List UInt8) (ho:o ∈ opL) (a b:Nat) (ha:a≤4503599627370496) (hb:b≤4503599627370496):cutF (tx (SL o a b)) 0=([(2,4,0,0),(1,1,0,5),(2,5,0,7),(7,1,0,13),(3,(dec a).length,a,15),(7,1,0,15+(dec a).length+1),(3,(dec b).length,b,15+(dec a).length+3),(7,1,0,15+(dec a).length+3+(dec b).length),(0,0,0,15+(dec a).length+3+(dec b).length+1)],none):=by
 have e:tl (tx (SL o a b)) 0=SL o a b:=by unfold tl tx;simp
 obtain ⟨ca,ra,ea,ha'⟩:=dec_head a
 obtain ⟨cb,rb,eb,hb'⟩:=dec_head b
 obtain ⟨pa1,pa2,-⟩:=dig_plain ha'
 obtain ⟨pb1,pb2,-⟩:=dig_plain hb'
 have wa:=wd_blank ha (o ++ 32 :: (dec b ++ 59 :: []))
 have wb:=wd_semi hb []
 have da:=drop_app (dec a) (32 :: (o ++ 32 :: (dec b ++ 59 :: [])))
 have db:=drop_app (dec b) (59 :: [])
 refine cut_wd (c:=114) (l:=[117,108,101] ++ 32 :: _) e (by decide) (by decide) rfl rfl (fun h=>?_)
 refine cut_bl h (fun h=>?_)
 refine cut_wd (c:=114) (l:=[] ++ 32 :: _) h (by decide) (by decide) rfl rfl (fun h=>?_)
 refine cut_bl h (fun h=>?_)
 refine cut_wd (c:=99) (l:=[111,117,110,116] ++ 32 :: _) h (by decide) (by decide) rfl rfl (fun h=>?_)
 refine cut_bl h (fun h=>?_)
 refine cut_wd (c:=61) (l:=[] ++ 32 :: _) h (by decide) (by decide) rfl rfl (fun h=>?_)
 refine cut_bl h (fun h=>?_)
 rw [ea] at wa da h ⊢
 refine cut_wd (c:=ca) h pa1 pa2 wa da (fun h=>?_)
 refine cut_bl h (fun h=>?_)
 have key:∀ (c:UInt8),isBl c=false→c.toNat≠35→wd (c :: 32 :: (dec b ++ 59 :: []))=some (7,1,0)→o=[c]→cutF (tx (SL o a b)) (15+(ca :: ra).length+1)=([(7,1,0,15+(ca :: ra).length+1),(3,(dec b).length,b,15+(ca :: ra).length+3),(7,1,0,15+(ca :: ra).length+3+(dec b).length),(0,0,0,15+(ca :: ra).length+3+(dec b).length+1)],none):=by
  intro c h1 h2 h3 h4
  subst h4
  refine cut_wd (c:=c) (l:=32 :: (dec b ++ 59 :: [])) (rest:=32 :: (dec b ++ 59 :: [])) h h1 h2 h3 rfl (fun h=>?_)
  refine cut_bl h (fun h=>?_)
  rw [show 15+(ca :: ra).length+1+1+1=15+(ca :: ra).length+3 by omega] at h ⊢
  rw [eb] at wb db h ⊢
  refine cut_wd (c:=cb) h pb1 pb2 wb db (fun h=>?_)
  refine cut_wd (n:=1) (k:=7) (v:=0) (c:=59) (l:=[]) (rest:=[]) h (by decide) (by decide) rfl rfl (fun h=>?_)
  exact cutF_end (by
   rcases Nat.lt_or_ge (15+(ca :: ra).length+3+(cb :: rb).length+1) (tx (SL [c] a b)).size with x | x
   ·rw [tl_cons x] at h;cases h
   ·exact x)
 simp only [opL,List.mem_cons,List.not_mem_nil,or_false] at ho
 rcases ho with rfl | rfl | rfl | rfl
 ·exact key 43 (by decide) (by decide) rfl rfl
 ·exact key 45 (by decide) (by decide) rfl rfl
 ·exact key 42 (by decide) (by decide) rfl rfl
 ·exact key 47 (by decide) (by decide) rfl rfl
def eS (o:ByteArray) (a b p q:Nat):Tr:=.nd o ⟨#[]⟩ 0 0 p [.nd ⟨#[108,105,116]⟩ ⟨#[]⟩ 2 (a:Nat) 15 [],.nd ⟨#[108,105,116]⟩ ⟨#[]⟩ 2 (b:Nat) q []]
def tS (e:Tr):Tr:=.nd ⟨#[115,116,97,116,117,116,101]⟩ ⟨#[]⟩ 0 0 0 [.nd ⟨#[114,117,108,101]⟩ ⟨#[114]⟩ 2 0 0 [e]]
theorem par_SL (o:List UInt8) (ho:o ∈ opL) (a b p q r z:Nat) (ta tb t0:ByteArray):parX [⟨2,tx [114,117,108,101],0,0⟩,⟨1,tx [114],0,5⟩,⟨2,tx [99,111,117,110,116],0,7⟩,⟨7,tx [61],0,13⟩,⟨3,ta,a,15⟩,⟨7,tx o,0,p⟩,⟨3,tb,b,q⟩,⟨7,tx [59],0,r⟩,⟨0,t0,0,z⟩]=.inl (tS (eS (tx o) a b p q)):=by
 simp only [opL,List.mem_cons,List.not_mem_nil,or_false] at ho
 rcases ho with rfl | rfl | rfl | rfl <;> kernel_rfl
theorem parse_SL (o:List UInt8) (ho:o ∈ opL) (a b:Nat) (ha:a≤4503599627370496) (hb:b≤4503599627370496):parseX (tx (SL o a b))=.inl (tS (eS (tx o) a b (15+(dec a).length+1) (15+(dec a).length+3))):=by
 have ol:o.length=1:=by
  simp only [opL,List.mem_cons,List.not_mem_nil,or_false] at ho
  rcases ho with rfl | rfl | rfl | rfl <;> rfl
 have t15:tl (tx (SL o a b)) 15=dec a ++ 32 :: (o ++ 32 :: (dec b ++ 59 :: [])):=rfl
 have t1:tl (tx (SL o a b)) (15+(dec a).length+1)=o ++ 32 :: (dec b ++ 59 :: []):=by
  rw [← tl_drop,← tl_drop,t15,drop_app]
  rfl
 have t2:tl (tx (SL o a b)) (15+(dec a).length+3)=dec b ++ 59 :: []:=by
  rw [show 15+(dec a).length+3=15+(dec a).length+1+(o.length+1) by omega,← tl_drop,t1,← List.drop_drop,drop_app]
  rfl
 have t3:tl (tx (SL o a b)) (15+(dec a).length+3+(dec b).length)=[59]:=by
  rw [← tl_drop,t2,drop_app]
 unfold parseX
 rw [cut_SL o ho a b ha hb]
 rw [← par_SL o ho a b (15+(dec a).length+1) (15+(dec a).length+3) (15+(dec a).length+3+(dec b).length) (15+(dec a).length+3+(dec b).length+1) ((tx (SL o a b)).extract 15 (15+(dec a).length)) ((tx (SL o a b)).extract (15+(dec a).length+3) (15+(dec a).length+3+(dec b).length)) ((tx (SL o a b)).extract (15+(dec a).length+3+(dec b).length+1) (15+(dec a).length+3+(dec b).length+1+0))]
 have x1:(tx (SL o a b)).extract 0 (0+4)=tx [114,117,108,101]:=by rw [ext_is];rfl
 have x2:(tx (SL o a b)).extract 5 (5+1)=tx [114]:=by rw [ext_is];rfl
 have x3:(tx (SL o a b)).extract 7 (7+5)=tx [99,111,117,110,116]:=by rw [ext_is];rfl
 have x4:(tx (SL o a b)).extract 13 (13+1)=tx [61]:=by rw [ext_is];rfl
 have x5:(tx (SL o a b)).extract (15+(dec a).length+1) (15+(dec a).length+1+1)=tx o:=by
  rw [ext_is,t1,show 15+(dec a).length+1+1 - (15+(dec a).length+1)=o.length by omega,take_app]
 have x6:(tx (SL o a b)).extract (15+(dec a).length+3+(dec b).length) (15+(dec a).length+3+(dec b).length+1)=tx [59]:=by
  rw [ext_is,t3,show 15+(dec a).length+3+(dec b).length+1 - (15+(dec a).length+3+(dec b).length)=1 by omega]
  rfl
 simp only [List.map_cons,List.map_nil,wo]
 rw [x1,x2,x3,x4,x5,x6]
end Go.Proofs.YtbeahnehjannpaaDoor
