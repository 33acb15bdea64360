/- Parts of the proof. -/
import Derived.Test.YtbeahnehjannpaaGreatDoorKU
import Derived.Deep.LoopGhost
import Derived.BigQuiet
import Derived.Deep.RegionHeld3
namespace Go.Proofs.YtbeahnehjannpaaGreatDoor
open Go.RowKit
set_option linter.unusedVariables false
set_option linter.unusedSimpArgs false
def kNl:List ByteArray:=[⟨#[]⟩,⟨#[98,111,111,108]⟩,⟨#[99,111,117,110,116]⟩,⟨#[109,111,110,101,121]⟩,⟨#[114,97,116,101]⟩,⟨#[100,97,116,101]⟩,⟨#[109,111,110,101,121,115]⟩]
def kNm (k:Nat):ByteArray:=kNl.getD k ⟨#[]⟩
def KT (w:World):Prop:=0<w.heap.size∧∀ i,i<7→w.cell? ⟨0,i,none⟩=some (.string (kNm i))
theorem KT.keep {w w':World} (h:KT w) (e:w'.heap[0]?=w.heap[0]?) (hs:w.heap.size≤w'.heap.size):KT w' :=
 ⟨Nat.lt_of_lt_of_le h.1 hs,fun i hi=>by rw [World.cell?_of_block (a:=⟨0,i,none⟩) e];exact h.2 i hi⟩
theorem KT.next {w w':World} (h:KT w) (hb:Below w.heap.size w w'):KT w':=h.keep (hb.block _ h.1) hb.size
theorem KT.gr {w w':World} {p:Nat} (h:KT w) (hb:Gr w w' p) (hp:0≠p):KT w':=h.keep (hb.block _ h.1 (fun e=>hp (by injection e))) hb.size
theorem kNm_big {k:Nat} (h:6<k):kNm k=⟨#[]⟩:=by
 unfold kNm
 rw [List.getD_eq_getElem?_getD,List.getElem?_eq_none (by simp [kNl];omega)]
 rfl
theorem kindName_any (k:Nat) (w:World) (hk:k≤1000000) (hT:KT w):Calls Tryz.prog 97 #[.int .i64 (k:Nat)] w fun e w'=>e=.returned (.string (kNm k))∧w=w':=by
 by_cases h0:k=0
 ·subst h0
  clear hT
  go_enter Tryz.func97,Tryz.ntmps97
  go_wp2
  go_ret
  exact ⟨rfl,rfl⟩
 ·by_cases h6:6<k
  ·rw [kNm_big h6]
   clear hT
   have h1:¬ (k:Int)<1:=by omega
   have h2:6<(k:Int):=by omega
   go_enter Tryz.func97,Tryz.ntmps97
   go_wp2
   go_ret
   exact ⟨rfl,rfl⟩
  ·have c:=hT.2 k (by omega)
   have h1:¬ (k:Int)<1:=by omega
   have h2:¬ 6<(k:Int):=by omega
   clear hT
   generalize kNm k=s at *
   go_enter Tryz.func97,Tryz.ntmps97
   go_wp2
   go_ret
   exact ⟨rfl,rfl⟩
theorem Nd.sl {w:World} {S:Nat→Prop} {v:Value} {ts:List Tr} (h:Nd w S v ts):∃ a m c,v=.slice a m c:=by
 cases h
 ·exact ⟨_,_,_,rfl⟩
 ·exact ⟨_,_,_,rfl⟩
theorem Rp.parts {w w':World} {p b c:Nat} {ws:List Wo} {k:Nat} {e:Ending} {r:Rs} (h:Rp w w' p b c ws k e r):Gr w w' p∧∃ (k':Nat) (t:Tr) (sa:Option Addr) (sm sc:Nat) (ok:Bool),k≤k'∧(ok=true→k<k')∧r.l=ws.drop k'∧Ps w' p b c ws k' r.o∧e=.returned (.tuple #[.agg #[.string t.op,.string t.name,.int .i64 (t.kind:Nat),.int .i64 t.n,.int .i64 (t.pl:Nat),.slice sa sm sc],.bool ok])∧r.t.isSome=ok∧Nd w' (fun g=>w.heap.size≤g) (.slice sa sm sc) t.kids∧∀ t',r.t=some t'→t=t':=by
 obtain ⟨hg,k',v,hk,hk2,hl,hp,he,t,⟨sl,hv,hn⟩,ht⟩:=h
 subst hv
 obtain ⟨sa,sm,sc,rfl⟩:=hn.sl
 exact ⟨hg,k',t,sa,sm,sc,_,hk,hk2,hl,hp,he,rfl,hn,ht⟩
structure Fm (w wr:World) (p b c:Nat) (ws:List Wo) (q base k:Nat) (o:Option Nat) (n:Tr) (sl:Value):Prop where
 ps:Ps wr p b c ws k o
 gr:Gr w wr p
 bq:B6 wr q (.string n.op) (.string n.name) (.int .i64 (n.kind:Nat)) (.int .i64 n.n) (.int .i64 (n.pl:Nat)) sl
 br:B6 wr w.heap.size (.string ⟨#[]⟩) (.string ⟨#[]⟩) (.int .i64 0) (.int .i64 0) (.int .i64 0) (.slice none 0 0)
 kr:Kr wr base sl n.kids
 kl:n.kids.length≤20000
 ba:base≤wr.heap.size
 wp:p<w.heap.size
 wb:b<w.heap.size
 wq:w.heap.size<q
 qb:q<base
theorem Fm.call {w wr w5:World} {p b c:Nat} {ws:List Wo} {q base k k5:Nat} {o o5:Option Nat} {n:Tr} {sl:Value} (h:Fm w wr p b c ws q base k o n sl) (g:Gr wr w5 p) (hp:Ps w5 p b c ws k5 o5):Fm w w5 p b c ws q base k5 o5 n sl:=by
 have:=h.wp;have:=h.wq;have:=h.qb
 exact ⟨hp,h.gr.trans g,h.bq.gr g (by omega),h.br.gr g (by omega),h.kr.gr g (by omega),h.kl,Nat.le_trans h.ba g.size,h.wp,h.wb,h.wq,h.qb⟩
theorem Fm.next {w wr w5:World} {p b c:Nat} {ws:List Wo} {q base k:Nat} {o:Option Nat} {n:Tr} {sl:Value} (h:Fm w wr p b c ws q base k o n sl) (g:Below wr.heap.size wr w5):Fm w w5 p b c ws q base k o n sl :=
 h.call ((Gr.refl _ _).below g) (h.ps.next g)
theorem Fm.name {w wr:World} {p b c:Nat} {ws:List Wo} {q base k:Nat} {o:Option Nat} {n:Tr} {sl:Value} (h:Fm w wr p b c ws q base k o n sl) (s:ByteArray):Fm w (wr.setCell ⟨q,1,none⟩ (.string s)) p b c ws q base k o (n.setName s) sl:=by
 have:=h.wp;have:=h.wb;have:=h.wq;have:=h.qb
 cases n
 exact ⟨h.ps.put (by omega) (by omega) _,h.gr.put (by omega) _,h.bq.set1 _,h.br.put (by omega) _,h.kr.put (by omega) _,h.kl,by simpa using h.ba,h.wp,h.wb,h.wq,h.qb⟩
theorem Fm.kind {w wr:World} {p b c:Nat} {ws:List Wo} {q base k:Nat} {o:Option Nat} {op name:ByteArray} {kd:Nat} {m:Int} {a:Nat} {ks:List Tr} {sl:Value} (h:Fm w wr p b c ws q base k o (.nd op name kd m a ks) sl) (x:Nat):Fm w (wr.setCell ⟨q,2,none⟩ (.int .i64 (x:Nat))) p b c ws q base k o (.nd op name x m a ks) sl:=by
 have:=h.wp;have:=h.wb;have:=h.wq;have:=h.qb
 exact ⟨h.ps.put (by omega) (by omega) _,h.gr.put (by omega) _,h.bq.set2 _,h.br.put (by omega) _,h.kr.put (by omega) _,h.kl,by simpa using h.ba,h.wp,h.wb,h.wq,h.qb⟩
theorem Fm.step {w wr:World} {p b c:Nat} {ws:List Wo} {q base k:Nat} {o:Option Nat} {n:Tr} {sl:Value} (h:Fm w wr p b c ws q base k o n sl) (hk:k+1<ws.length):Fm w (wr.setCell ⟨p,1,none⟩ (.int .i64 ((k:Int)+1))) p b c ws q base (k+1) o n sl :=
 h.call ((Gr.refl _ _).set _) (h.ps.step hk)
theorem Fm.kid {w wr w':World} {p b c:Nat} {ws:List Wo} {q base k:Nat} {o:Option Nat} {n t:Tr} {sl v':Value} (h:Fm w wr p b c ws q base k o n sl) (g:wr.grownBy w' sl.ownBlock) (kr:Kr w' base v' (n.kids ++ [t])) (hl:n.kids.length<20000):Fm w (w'.setCell ⟨q,5,none⟩ v') p b c ws q base k o (n.add t) v':=by
 have:=h.wp;have:=h.wb;have:=h.wq;have:=h.qb
 have lt:=h.kr.lt
 have ne:∀ x,x<base→some x≠sl.ownBlock:=fun x hx e=>by have:=(lt x e.symm).1;omega
 cases n
 refine ⟨(h.ps.grown g (ne _ (by omega)) (ne _ (by omega))).put (by omega) (by omega) _,(h.gr.own g (fun i e=>by have:=(lt i e).1;omega)).put (by omega) _,(h.bq.grown g (ne _ h.qb)).set5 _,(h.br.grown g (ne _ (by omega))).put (by omega) _,kr.put (by omega) _,?_,by simpa using Nat.le_trans h.ba g.size,h.wp,h.wb,h.wq,h.qb⟩
 show (_ ++ [_]).length≤20000
 rw [List.length_append]
 exact hl
theorem Fm.put6 {w wr:World} {p b c:Nat} {ws:List Wo} {q base k e:Nat} {o:Option Nat} {n:Tr} {sl:Value} (h:Fm w wr p b c ws q base k o n sl) (he:base≤e) (v0 v1 v2 v3 v4 v5:Value) (kr:Kr ((((((wr.setCell ⟨e,0,none⟩ v0).setCell ⟨e,1,none⟩ v1).setCell ⟨e,2,none⟩ v2).setCell ⟨e,3,none⟩ v3).setCell ⟨e,4,none⟩ v4).setCell ⟨e,5,none⟩ v5) base sl n.kids):Fm w ((((((wr.setCell ⟨e,0,none⟩ v0).setCell ⟨e,1,none⟩ v1).setCell ⟨e,2,none⟩ v2).setCell ⟨e,3,none⟩ v3).setCell ⟨e,4,none⟩ v4).setCell ⟨e,5,none⟩ v5) p b c ws q base k o n sl:=by
 have:=h.wp;have:=h.wb;have:=h.wq;have:=h.qb
 exact ⟨h.ps.put6 (by omega) (by omega) v0 v1 v2 v3 v4 v5,h.gr.put6 (by omega) v0 v1 v2 v3 v4 v5,h.bq.put6 (by omega) v0 v1 v2 v3 v4 v5,h.br.put6 (by omega) v0 v1 v2 v3 v4 v5,kr,h.kl,by rw [size6];exact h.ba,h.wp,h.wb,h.wq,h.qb⟩
theorem Fm.off {w wr:World} {p b c:Nat} {ws:List Wo} {q base k:Nat} {o:Option Nat} {n:Tr} {sl:Value} (h:Fm w wr p b c ws q base k o n sl) {x:Nat} (hx:x<base):some x≠sl.ownBlock:=fun e=>by have:=(h.kr.lt x e.symm).1;omega
theorem Fm.yes {w wr:World} {p b c:Nat} {ws:List Wo} {q base k:Nat} {o:Option Nat} {n:Tr} {sl:Value} (h:Fm w wr p b c ws q base k o n sl):Nd wr (fun g=>w.heap.size+1≤g) sl n.kids:=by
 have:=h.wq;have:=h.qb
 exact h.kr.nd.weak (by omega)
theorem eqB_eq {a b:ByteArray} (h:eqB a b=true):a=b:=by
 unfold eqB at h
 have h:=Array.toList_inj.1 (eq_of_beq h)
 cases a;cases b
 simp only at h
 rw [h]
theorem B6.nc {w:World} {b:Nat} {t:Tr} {sl:Value} (h:B6 w b (.string t.op) (.string t.name) (.int .i64 (t.kind:Nat)) (.int .i64 t.n) (.int .i64 (t.pl:Nat)) sl):NC w b 0 t sl:=⟨h.c0,h.c1,h.c2,h.c3,h.c4,h.c5⟩
end Go.Proofs.YtbeahnehjannpaaGreatDoor
