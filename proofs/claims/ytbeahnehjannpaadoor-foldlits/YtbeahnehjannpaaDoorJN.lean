/- Parts of the proof. -/
import Derived.Test.YtbeahnehjannpaaDoorKS
import Derived.Test.YtbeahnehjannpaaDoorKC
namespace Go.Proofs.YtbeahnehjannpaaDoor
open Go.RowKit
set_option linter.unusedVariables false
set_option linter.unusedSimpArgs false
def U (l:List UInt8) (n:Nat) (r:List UInt8):List UInt8:=l.take n ++ 32 :: r
theorem U_drop {l r:List UInt8} {n k:Nat} (h:k≤n) (hn:n≤l.length):(U l n r).drop k=U (l.drop k) (n - k) r:=by
 unfold U
 rw [List.drop_append_of_le_length (by rw [List.length_take];omega),List.drop_take]
theorem U_take {l r:List UInt8} {n k:Nat} (h:k≤n) (hn:n≤l.length):(U l n r).take k=l.take k:=by
 unfold U
 rw [List.take_append_of_le_length (by rw [List.length_take];omega),List.take_take,Nat.min_eq_left h]
theorem U_runD (r l:List UInt8):∀ n,runD (U l n r)=min n (runD l):=by
 induction l with
 | nil=>intro n;unfold U;simp only [List.take_nil,List.nil_append];show (if isDig 32 then _ else 0)=min n 0;rw [if_neg (by decide)];omega
 | cons c l ih =>
  intro n
  cases n with
  | zero=>show (if isDig 32 then _ else 0)=min 0 _;rw [if_neg (by decide)];omega
  | succ n =>
   show (if isDig c then runD (U l n r)+1 else 0)=min (n+1) (if isDig c then runD l+1 else 0)
   rw [ih]
   split <;> omega
theorem U_runN (r l:List UInt8):∀ n,runN (U l n r)=min n (runN l):=by
 induction l with
 | nil=>intro n;unfold U;simp only [List.take_nil,List.nil_append];show (if isNm 32 then _ else 0)=min n 0;rw [if_neg (by decide)];omega
 | cons c l ih =>
  intro n
  cases n with
  | zero=>show (if isNm 32 then _ else 0)=min 0 _;rw [if_neg (by decide)];omega
  | succ n =>
   show (if isNm c then runN (U l n r)+1 else 0)=min (n+1) (if isNm c then runN l+1 else 0)
   rw [ih]
   split <;> omega
theorem U_hd {l r:List UInt8} {n:Nat} (h:1≤n) (hn:n≤l.length):hd (U l n r)=hd l:=by
 cases l with
 | nil=>simp at hn;omega
 | cons c l =>
  cases n with
  | zero=>omega
  | succ n=>rfl
theorem U_0 (l r:List UInt8):U l 0 r=32 :: r:=rfl
theorem dotW_32 (r:List UInt8):dotW (32 :: r)=0:=if_neg (fun h=>absurd h.1 (by show ¬ (32:UInt8).toNat=46;decide))
theorem dotW_U {d r:List UInt8} {n:Nat} (hn:n≤d.length) (h:dotW d≤n) (h0:dotW d≠0):dotW (U d n r)=dotW d:=by
 have hd46:hd d=46∧runD (d.drop 1)≠0:=by
  by_cases c:hd d=46∧runD (d.drop 1)≠0
  ·exact c
  ·exact absurd (if_neg c) h0
 have e:dotW d=1+runD (d.drop 1):=if_pos hd46
 have hu:hd (U d n r)=46:=by rw [U_hd (by omega) hn];exact hd46.1
 have hr:runD ((U d n r).drop 1)=runD (d.drop 1):=by rw [U_drop (by omega) hn,U_runD];omega
 unfold dotW
 rw [hu,hr,hd46.1]
theorem dotW_U0 {d r:List UInt8} {n:Nat} (hn:n≤d.length) (h:hd d≠46):dotW (U d n r)=0:=by
 unfold dotW
 rw [if_neg]
 rintro ⟨c,_⟩
 cases n with
 | zero=>exact absurd c (by show ¬ (32:UInt8).toNat=46;decide)
 | succ n=>rw [U_hd (by omega) hn] at c;exact h c
theorem dayW_some {l:List UInt8} {m:Nat} (h:dayW l=some m):runD l=4∧hd (l.drop 4)=45:=by
 unfold dayW at h
 split at h
 ·rename_i c0 c1 c2 c3 c4 c5 c6 c7 c8 c9 l
  split at h
  ·cases h
  ·split at h
   ·rename_i hB
    have hf:fitB c0 c1 c2 c3 c4 c5 c6 c7 c8 c9=true:=by
     cases x:fitB c0 c1 c2 c3 c4 c5 c6 c7 c8 c9
     ·rw [(rd_no x).2] at hB;cases hB
     ·rfl
    obtain ⟨h0,h1,h2,h3,-,-,-,-,h4,-⟩:=fit_digs hf
    have h5:isDig c4=false:=by unfold isDig;rw [h4];decide
    constructor
    ·unfold runD;rw [if_pos h0]
     unfold runD;rw [if_pos h1]
     unfold runD;rw [if_pos h2]
     unfold runD;rw [if_pos h3]
     unfold runD;rw [h5]
     rfl
    ·show c4.toNat=45
     omega
   ·cases h
 ·cases h
theorem namW_U {l r:List UInt8} {k n v:Nat} (h:namW l=some (k,n,v)):namW (U l n r)=some (k,n,v):=by
 unfold namW at h
 split at h
 ·rename_i h32
  simp only [Option.some.injEq,Prod.mk.injEq] at h
  obtain ⟨hk,rfl,hv⟩:=h
  have e:runN (U l (runN l) r)=runN l:=by rw [U_runN];omega
  unfold namW
  rw [e,U_take (Nat.le_refl _) (runN_le l),if_pos h32,hk,hv]
 ·cases h
theorem monW_U {l r:List UInt8} {k n v:Nat} (h:monW l=some (k,n,v)):monW (U l n r)=some (k,n,v):=by
 have hl:=(monW_len h).2
 unfold monW at h
 split at h
 ·cases h
 ·rename_i hk
  split at h
  ·rename_i hv
   simp only [Option.some.injEq,Prod.mk.injEq] at h
   obtain ⟨rfl,hn,rfl⟩:=h
   have p3:monP l=3∨monP l=0:=by unfold monP;split <;> omega
   have e1:monK (U l n r)=monK l:=by
    unfold monK
    rw [U_drop (by omega) hl,U_runD]
    have:monK l=runD (l.drop 1):=rfl
    omega
   have e2:(U l n r).drop (1+monK l)=U (l.drop (1+monK l)) (monP l) r:=by rw [U_drop (by omega) hl];congr 1;omega
   have e3:(U l n r).drop 1=U (l.drop 1) (n - 1) r:=U_drop (by omega) hl
   have hd:monP l≤(l.drop (1+monK l)).length:=by rw [List.length_drop];omega
   have e4:dotW (U (l.drop (1+monK l)) (monP l) r)=3 ↔ dotW (l.drop (1+monK l))=3:=by
    unfold monP at *
    by_cases c:dotW (l.drop (1+monK l))=3
    ·rw [if_pos c] at *
     rw [dotW_U hd (by omega) (by omega)]
    ·rw [if_neg c] at *
     rw [U_0,dotW_32]
     constructor
     ·intro h;omega
     ·intro h;exact absurd h c
   have e5:monP (U l n r)=monP l:=by
    unfold monP
    rw [e1,e2]
    by_cases c:dotW (l.drop (1+monK l))=3
    ·rw [if_pos (e4.2 c),if_pos c]
    ·rw [if_neg (fun x=>c (e4.1 x)),if_neg c]
   have e6:monV (U l n r)=monV l:=by
    unfold monV
    rw [e1,e2,e3,U_take (by omega) (by rw [List.length_drop];omega)]
    by_cases c:dotW (l.drop (1+monK l))=3
    ·rw [if_pos (e4.2 c),if_pos c,U_take (by unfold monP;rw [if_pos c];omega) hd]
    ·rw [if_neg (fun x=>c (e4.1 x)),if_neg c]
   unfold monW
   rw [e1,e5,e6,if_neg hk,if_pos hv,hn]
  ·cases h
theorem pctW_U {d r:List UInt8} (hp:hd (d.drop (pctW d))=37) (hn:pctW d+1≤d.length):pctW (U d (pctW d+1) r)=pctW d:=by
 by_cases c:dotW d≤5
 ·have e:pctW d=dotW d:=if_pos c
  by_cases z:dotW d=0
  ·have h46:hd d≠46:=by rw [e,z,List.drop_zero] at hp;omega
   have:dotW (U d (pctW d+1) r)=0:=dotW_U0 hn h46
   rw [e,z]
   rw [e,z] at this
   unfold pctW
   rw [this]
   rfl
  ·have:dotW (U d (pctW d+1) r)=dotW d:=dotW_U hn (by omega) z
   rw [e] at this ⊢
   unfold pctW
   rw [this,if_pos c]
 ·have e:pctW d=0:=if_neg c
  have h46:hd d≠46:=by rw [e,List.drop_zero] at hp;omega
  have:dotW (U d (pctW d+1) r)=0:=dotW_U0 hn h46
  rw [e] at this ⊢
  unfold pctW
  rw [this]
  rfl
theorem numW_U {l r:List UInt8} {k n v:Nat} (h:numW l=some (k,n,v)) (h0:runD l≠0):numW (U l n r)=some (k,n,v):=by
 have hl:=(numW_len h h0).2
 have hr:=runD_le l
 unfold numW at h
 cases hD:dayW l with
 | some m =>
  rw [hD] at h
  simp only [Option.some.injEq,Prod.mk.injEq] at h
  obtain ⟨rfl,rfl,rfl⟩:=h
  have:dayW (U l 10 r)=some m:=by
   unfold dayW at hD
   split at hD
   ·rename_i c0 c1 c2 c3 c4 c5 c6 c7 c8 c9 l
    split at hD
    ·cases hD
    ·show (if runD (32 :: r)≠0 then none else if rdB c0 c1 c2 c3 c4 c5 c6 c7 c8 c9 then some (rdN c0 c1 c2 c3 c4 c5 c6 c7 c8 c9).toNat else none)=some m
     have e:runD (32 :: r)=0:=by unfold runD;rw [if_neg (by decide)]
     rw [e]
     exact hD
   ·cases hD
  unfold numW
  rw [this]
 | none =>
  rw [hD] at h
  dsimp only at h
  split at h
  ·rename_i hp
   split at h
   ·rename_i hv
    simp only [Option.some.injEq,Prod.mk.injEq] at h
    obtain ⟨rfl,hn,rfl⟩:=h
    have hp':hd (l.drop (runD l+pctW (l.drop (runD l))))=37:=by unfold isPct at hp;exact of_decide_eq_true hp
    rw [← List.drop_drop] at hp'
    have e1:runD (U l n r)=runD l:=by rw [U_runD];omega
    have hd1:pctW (l.drop (runD l))+1≤(l.drop (runD l)).length:=by rw [List.length_drop];omega
    have e2:(U l n r).drop (runD l)=U (l.drop (runD l)) (pctW (l.drop (runD l))+1) r:=by rw [U_drop (by omega) hl];congr 1;omega
    have e3:=pctW_U (r:=r) hp' hd1
    have e4:isPct (U l n r)=true:=by
     unfold isPct
     rw [e1,e2,e3,← List.drop_drop,e2,U_drop (by omega) hd1,U_hd (by omega) (by rw [List.length_drop];omega),hp']
     rfl
    have e5:rateV (U l n r)=rateV l:=by
     unfold rateV
     rw [e1,e2,e3,U_take (by omega) hl,U_take (by omega) hd1]
    have e6:dayW (U l n r)=none:=by
     cases x:dayW (U l n r) with
     | none=>rfl
     | some m =>
      obtain ⟨y1,y2⟩:=dayW_some x
      rw [e1] at y1
      rw [y1] at e2 hp' hd1
      rw [e2,U_hd (by omega) hd1] at y2
      by_cases z:pctW (l.drop 4)=0
      ·rw [z,List.drop_zero] at hp';omega
      ·have:hd (l.drop 4)=46:=by
        have w:pctW (l.drop 4)=dotW (l.drop 4):=by unfold pctW at z ⊢;split at z <;> simp_all
        rw [w] at z
        by_cases c:hd (l.drop 4)=46∧runD ((l.drop 4).drop 1)≠0
        ·exact c.1
        ·exact absurd (if_neg c) z
       omega
    unfold numW
    rw [e6]
    dsimp only
    rw [e4,if_pos rfl,e5,if_pos hv,e1,e2,e3,hn]
   ·cases h
  ·rename_i hp
   split at h
   ·rename_i hv
    simp only [Option.some.injEq,Prod.mk.injEq] at h
    obtain ⟨rfl,hn,rfl⟩:=h
    subst hn
    have e1:runD (U l (runD l) r)=runD l:=by rw [U_runD];omega
    have e2:(U l (runD l) r).drop (runD l)=32 :: r:=by rw [U_drop (Nat.le_refl _) hl,Nat.sub_self];rfl
    have e3:pctW (32 :: r)=0:=by unfold pctW;rw [dotW_32];rfl
    have e4:isPct (U l (runD l) r)=false:=by
     unfold isPct
     rw [e1,e2,e3,Nat.add_zero,e2]
     show decide ((32:UInt8).toNat=37)=false
     decide
    have e6:dayW (U l (runD l) r)=none:=by
     cases x:dayW (U l (runD l) r) with
     | none=>rfl
     | some m =>
      obtain ⟨y1,y2⟩:=dayW_some x
      rw [e1] at y1
      rw [← y1,e2] at y2
      exact absurd y2 (by show ¬ (32:UInt8).toNat=45;decide)
    unfold numW
    rw [e6]
    dsimp only
    rw [e4,if_neg (by decide),e1,U_take (Nat.le_refl _) hl,if_pos hv]
   ·cases h
theorem sgnW_U {l r:List UInt8} {k n v:Nat} (h:sgnW l=some (k,n,v)) (hl:n≤l.length):sgnW (U l n r)=some (k,n,v):=by
 unfold sgnW at h
 split at h
 ·cases h
 ·rename_i h0
  simp only [Option.some.injEq,Prod.mk.injEq] at h
  obtain ⟨rfl,hn,rfl⟩:=h
  have e:sgnN (U l n r)=n:=by
   unfold sgnN at hn h0
   split at hn
   ·rename_i h2
    subst hn
    have a1:hd (U l 2 r)=hd l:=U_hd (by omega) hl
    have a2:hd ((U l 2 r).drop 1)=hd (l.drop 1):=by rw [U_drop (by omega) hl,U_hd (by omega) (by rw [List.length_drop];omega)]
    unfold sgnN
    rw [a1,a2,if_pos h2]
   ·rename_i h2
    split at hn
    ·rename_i h1
     subst hn
     have a1:hd (U l 1 r)=hd l:=U_hd (by omega) hl
     have a2:hd ((U l 1 r).drop 1)=32:=by rw [U_drop (by omega) hl];rfl
     unfold sgnN
     have n2:two2 (hd l) 32=false:=by unfold two2;simp
     rw [a1,a2,n2,if_neg (by decide),if_pos h1]
    ·rename_i h1
     rw [if_neg h2,if_neg h1] at h0
     exact absurd rfl h0
  unfold sgnW
  rw [e,if_neg (by omega)]
theorem wd_U {l r:List UInt8} {k n v:Nat} (h:wd l=some (k,n,v)):wd (U l n r)=some (k,n,v):=by
 obtain ⟨n1,hl⟩:=wd_len h
 cases l with
 | nil=>cases h
 | cons c l =>
  cases n with
  | zero=>omega
  | succ n =>
   have e:U (c :: l) (n+1) r=c :: U l n r:=rfl
   change (if isLet c=true then namW (c :: l) else if c.toNat=36 then monW (c :: l) else if isDig c=true then numW (c :: l) else sgnW (c :: l))=_ at h
   rw [e]
   show (if isLet c=true then namW (c :: U l n r) else if c.toNat=36 then monW (c :: U l n r) else if isDig c=true then numW (c :: U l n r) else sgnW (c :: U l n r))=_
   rw [← e]
   split at h
   ·rename_i x;rw [if_pos x];exact namW_U h
   ·rename_i x
    rw [if_neg x]
    split at h
    ·rename_i y;rw [if_pos y];exact monW_U h
    ·rename_i y
     rw [if_neg y]
     split at h
     ·rename_i z;rw [if_pos z];exact numW_U h (by unfold runD;rw [if_pos z];omega)
     ·rename_i z;rw [if_neg z];exact sgnW_U h hl
def Sm (s t:ByteArray) (R R':List Wd):Prop:=R'.length=R.length∧∀ (i:Nat) (x y:Wd),R[i]?=some x→R'[i]?=some y→y.1=x.1∧t.extract y.2.2.2 (y.2.2.2+y.2.1)=s.extract x.2.2.2 (x.2.2.2+x.2.1)∧y.2.2.1=x.2.2.1
theorem Sm.cons {s t:ByteArray} {R R':List Wd} {x y:Wd} (h:Sm s t R R') (e1:y.1=x.1) (e2:t.extract y.2.2.2 (y.2.2.2+y.2.1)=s.extract x.2.2.2 (x.2.2.2+x.2.1)) (e3:y.2.2.1=x.2.2.1):Sm s t (x :: R) (y :: R'):=by
 refine ⟨by simp [h.1],fun i a b ha hb=>?_⟩
 cases i with
 | zero=>simp at ha hb;subst ha hb;exact ⟨e1,e2,e3⟩
 | succ i=>exact h.2 i a b (by simpa using ha) (by simpa using hb)
theorem tl_lt {t:ByteArray} {p:Nat} {c:UInt8} {l:List UInt8} (h:tl t p=c :: l):p<t.size∧bt t p=c∧tl t (p+1)=l:=by
 have hp:p<t.size:=by
  rcases Nat.lt_or_ge p t.size with x | x
  ·exact x
  ·rw [tl_nil x] at h;cases h
 rw [tl_cons hp] at h
 injection h with h1 h2
 exact ⟨hp,h1,h2⟩
def decG:Nat→Nat→List UInt8
 | 0,n=>[UInt8.ofNat (48+n % 10)]
 | f+1,n=>if n<10 then [UInt8.ofNat (48+n)] else decG f (n / 10) ++ [UInt8.ofNat (48+n % 10)]
def dec (n:Nat):List UInt8:=decG 20 n
theorem ofNat_dig {d:Nat} (h:d≤9):(UInt8.ofNat (48+d)).toNat=48+d:=by
 rw [UInt8.toNat_ofNat']
 omega
theorem fig_snoc (l:List UInt8) (c:UInt8):∀ n,fig n (l ++ [c])=10*fig n l+(c.toNat - 48):=by
 induction l with
 | nil=>intro n;rfl
 | cons d l ih=>intro n;exact ih _
theorem decG_dig (f:Nat):∀ n,∀ c ∈ decG f n,dgB c.toNat=true:=by
 have one:∀ d,d≤9→dgB ((UInt8.ofNat (48+d)).toNat:Nat)=true:=fun d h=>by
  rw [ofNat_dig h]
  unfold dgB
  simp
  omega
 induction f with
 | zero=>intro n c hc;rw [List.mem_singleton.1 hc];exact one _ (by omega)
 | succ f ih =>
  intro n c hc
  unfold decG at hc
  split at hc
  ·rw [List.mem_singleton.1 hc];exact one _ (by omega)
  ·rcases List.mem_append.1 hc with h | h
   ·exact ih _ c h
   ·rw [List.mem_singleton.1 h];exact one _ (by omega)
theorem decG_fig (f:Nat):∀ n,n<10 ^ (f+1)→fig 0 (decG f n)=n:=by
 induction f with
 | zero =>
  intro n hn
  show 10*0+((UInt8.ofNat (48+n % 10)).toNat - 48)=n
  rw [ofNat_dig (by omega)]
  omega
 | succ f ih =>
  intro n hn
  unfold decG
  split
  ·rename_i h
   show 10*0+((UInt8.ofNat (48+n)).toNat - 48)=n
   rw [ofNat_dig (by omega)]
   omega
  ·rw [fig_snoc,ih (n / 10) (by rw [Nat.pow_succ] at hn;omega),ofNat_dig (by omega)]
   omega
theorem decG_len (f:Nat):∀ n,1≤(decG f n).length∧(decG f n).length≤f+1:=by
 induction f with
 | zero=>intro n;simp [decG]
 | succ f ih =>
  intro n
  unfold decG
  split
  ·simp
  ·have:=ih (n / 10)
   simp
   omega
theorem runD_all {l:List UInt8} (h:∀ c ∈ l,dgB c.toNat=true) (r:List UInt8) (hr:runD r=0):runD (l ++ r)=l.length:=by
 induction l with
 | nil=>exact hr
 | cons c l ih =>
  show (if isDig c then runD (l ++ r)+1 else 0)=_
  rw [if_pos (show isDig c=true from h c (by simp)),ih (fun d hd=>h d (by simp [hd]))]
  rfl
theorem dec_dig (n:Nat):∀ c ∈ dec n,dgB c.toNat=true:=decG_dig 20 n
theorem dec_fig {n:Nat} (h:n≤4503599627370496):fig 0 (dec n)=n:=decG_fig 20 n (by show n<10 ^ 21;omega)
theorem dec_len (n:Nat):1≤(dec n).length∧(dec n).length≤21:=decG_len 20 n
theorem dec_step {n:Nat} (h:10≤n) (h2:n≤1000000000000000000):dec n=dec (n / 10) ++ [UInt8.ofNat (48+n % 10)]:=by
 have key:∀ f m,m<10 ^ (f+1)→decG (f+1) m=decG f m:=by
  intro f
  induction f with
  | zero=>intro m hm;unfold decG;rw [if_pos (by omega),show m % 10=m by omega]
  | succ f ih =>
   intro m hm
   show (if m<10 then [UInt8.ofNat (48+m)] else decG (f+1) (m / 10) ++ [UInt8.ofNat (48+m % 10)])=(if m<10 then [UInt8.ofNat (48+m)] else decG f (m / 10) ++ [UInt8.ofNat (48+m % 10)])
   split
   ·rfl
   ·rw [ih (m / 10) (by rw [Nat.pow_succ] at hm;omega)]
 show decG 20 n=decG 20 (n / 10) ++ _
 rw [key 19 (n / 10) (by show n / 10<10 ^ 20;omega)]
 show (if n<10 then _ else _)=_
 rw [if_neg (by omega)]
theorem dec_one {n:Nat} (h:n<10):dec n=[UInt8.ofNat (48+n)]:=if_pos h
theorem dec_head (n:Nat):∃ c r,dec n=c :: r∧dgB c.toNat=true:=by
 cases h:dec n with
 | nil=>have:=(dec_len n).1;rw [h] at this;simp at this
 | cons c r=>exact ⟨c,r,rfl,dec_dig n c (by rw [h];simp)⟩
theorem dig_plain {c:UInt8} (h:dgB c.toNat=true):isBl c=false∧c.toNat≠35∧isLet c=false∧c.toNat≠36∧isDig c=true:=by
 have:=dgB_of h
 refine ⟨?_,by omega,?_,by omega,h⟩
 ·unfold isBl
  simp
  omega
 ·unfold isLet
  simp
  omega
theorem wd_dig {c:UInt8} {r:List UInt8} (h:dgB c.toNat=true):wd (c :: r)=numW (c :: r):=by
 obtain ⟨-,-,h1,h2,h3⟩:=dig_plain h
 show (if isLet c=true then namW (c :: r) else if c.toNat=36 then monW (c :: r) else if isDig c=true then numW (c :: r) else sgnW (c :: r))=_
 rw [h1,if_neg (by decide),if_neg h2,if_pos h3]
theorem num_count {l:List UInt8} (h:∀ c ∈ l,dgB c.toNat=true) (hv:fig 0 l≤4503599627370496):numW l=some (3,l.length,fig 0 l):=by
 have r:runD l=l.length:=by have:=runD_all h [] rfl;rw [List.append_nil] at this;exact this
 have d:l.drop l.length=[]:=List.drop_eq_nil_of_le (Nat.le_refl _)
 have e1:dayW l=none:=by
  cases x:dayW l with
  | none=>rfl
  | some m =>
   obtain ⟨y1,y2⟩:=dayW_some x
   rw [← y1,r,d] at y2
   exact absurd y2 (by decide)
 have e2:isPct l=false:=by
  unfold isPct
  rw [r,d]
  have:pctW []=0:=by decide
  rw [this,Nat.add_zero,d]
  decide
 unfold numW
 rw [e1]
 dsimp only
 rw [e2,if_neg (by decide),r,List.take_of_length_le (Nat.le_refl _),if_pos hv]
theorem drop_app (l m:List UInt8):(l ++ m).drop l.length=m:=by rw [List.drop_append_of_le_length (Nat.le_refl _),List.drop_eq_nil_of_le (Nat.le_refl _)];rfl
theorem take_app (l m:List UInt8):(l ++ m).take l.length=l:=by rw [List.take_append_of_le_length (Nat.le_refl _),List.take_of_length_le (Nat.le_refl _)]
end Go.Proofs.YtbeahnehjannpaaDoor
