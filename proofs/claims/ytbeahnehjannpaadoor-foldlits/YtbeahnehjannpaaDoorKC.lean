/- Parts of the proof. -/
import Derived.Test.YtbeahnehjannpaaDoorKS
import Derived.BigQuiet
namespace Go.Proofs.YtbeahnehjannpaaDoor
open Go.RowKit
set_option linter.unusedVariables false
set_option linter.unusedSimpArgs false
def kwl:List (List UInt8):=[[105,110,112,117,116],[114,117,108,101],[116,97,98,108,101],[98,111,111,108],[99,111,117,110,116],[109,111,110,101,121],[114,97,116,101],[100,97,116,101],[109,111,110,101,121,115],[105,102],[116,104,101,110],[101,108,115,101],[97,110,100],[111,114],[110,111,116],[109,105,110],[109,97,120],[115,117,109],[105,110],[108,101,110],[97,116],[116,114,117,101],[102,97,108,115,101]]
def kwi (i:Nat):List UInt8:=kwl.getD i []
def kwA:Array Value:=#[.string ⟨#[105,110,112,117,116]⟩,.string ⟨#[114,117,108,101]⟩,.string ⟨#[116,97,98,108,101]⟩,.string ⟨#[98,111,111,108]⟩,.string ⟨#[99,111,117,110,116]⟩,.string ⟨#[109,111,110,101,121]⟩,.string ⟨#[114,97,116,101]⟩,.string ⟨#[100,97,116,101]⟩,.string ⟨#[109,111,110,101,121,115]⟩,.string ⟨#[105,102]⟩,.string ⟨#[116,104,101,110]⟩,.string ⟨#[101,108,115,101]⟩,.string ⟨#[97,110,100]⟩,.string ⟨#[111,114]⟩,.string ⟨#[110,111,116]⟩,.string ⟨#[109,105,110]⟩,.string ⟨#[109,97,120]⟩,.string ⟨#[115,117,109]⟩,.string ⟨#[105,110]⟩,.string ⟨#[108,101,110]⟩,.string ⟨#[97,116]⟩,.string ⟨#[116,114,117,101]⟩,.string ⟨#[102,97,108,115,101]⟩]
theorem kw_cell:∀ i,i<23→kwA[i]?=some (.string (tx (kwi i))):=by
 intro i hi
 match i,hi with
 | 0,_=>rfl
 | 1,_=>rfl
 | 2,_=>rfl
 | 3,_=>rfl
 | 4,_=>rfl
 | 5,_=>rfl
 | 6,_=>rfl
 | 7,_=>rfl
 | 8,_=>rfl
 | 9,_=>rfl
 | 10,_=>rfl
 | 11,_=>rfl
 | 12,_=>rfl
 | 13,_=>rfl
 | 14,_=>rfl
 | 15,_=>rfl
 | 16,_=>rfl
 | 17,_=>rfl
 | 18,_=>rfl
 | 19,_=>rfl
 | 20,_=>rfl
 | 21,_=>rfl
 | 22,_=>rfl
 | i+23,hi=>omega
theorem kept_iff (l:List UInt8):keptB l=true ↔ ∃ i,i<23∧kwi i=l:=by
 have e:keptB l=kwl.any (l==·):=by
  unfold keptB kwl
  simp only [List.any_cons,List.any_nil,Bool.or_false,Bool.or_assoc]
 rw [e,List.any_eq_true]
 constructor
 ·rintro ⟨x,hx,hl⟩
  obtain ⟨i,hi,rfl⟩:=List.getElem_of_mem hx
  refine ⟨i,hi,?_⟩
  unfold kwi
  rw [List.getD_eq_getElem?_getD,List.getElem?_eq_getElem hi]
  exact (beq_iff_eq.1 hl).symm
 ·rintro ⟨i,hi,rfl⟩
  refine ⟨kwi i,?_,beq_self_eq_true _⟩
  have hi':i<kwl.length:=hi
  unfold kwi
  rw [List.getD_eq_getElem?_getD,List.getElem?_eq_getElem hi']
  exact List.getElem_mem hi'
theorem tx_list (l:List UInt8):(tx l).toList=l:=by rw [ByteArray.toList_eq];simp [tx]
theorem ydigit_any (c:Int) (w:World):Calls Tryd.prog 34 #[.int .u8 c] w fun e w'=>e=.returned (.bool (dgB c))∧w=w':=by
 go_enter Tryd.func34,Tryd.ntmps34
 go_wp2_with fail
 all_goals go_ret
 all_goals refine ⟨congrArg (fun b=>Ending.returned (Value.bool b)) ?_,rfl⟩
 all_goals (unfold dgB;simp_all <;> omega)
theorem yletter_any (c:Int) (w:World):Calls Tryd.prog 33 #[.int .u8 c] w fun e w'=>e=.returned (.bool (leB c))∧w=w':=by
 go_enter Tryd.func33,Tryd.ntmps33
 go_wp2_with fail
 all_goals go_ret
 all_goals refine ⟨congrArg (fun b=>Ending.returned (Value.bool b)) ?_,rfl⟩
 all_goals (unfold leB;simp_all <;> omega)
theorem kw_new (w:World):∀ i,i<23→(w.alloc (.cells kwA 9)).cell? ⟨w.heap.size,i,none⟩=some (.string (tx (kwi i))):=fun i hi=>by
 rw [← kw_cell i hi]
 exact cell_of_row _ _ _ _ _ _ (heap_alloc_new w _)
set_option maxHeartbeats 4000000 in
theorem ykept_any (s : ByteArray) (w : World) : Calls Tryd.prog 35 #[.string s] w fun e w' => e = .returned (.bool (keptB s.data.toList)) ∧ Below w.heap.size w w' := by
  have KI := hid <| kept_iff s.data.toList
  rw [← ByteArray.toList_eq] at *
  go_enter Tryd.func35, Tryd.ntmps35
  go_upto_region 2 with fail
  have NB : Hid (Below w.heap.size w (w.alloc (.cells #[.string ⟨#[105, 110, 112, 117, 116]⟩, .string ⟨#[114, 117, 108, 101]⟩, .string ⟨#[116, 97, 98, 108, 101]⟩, .string ⟨#[98, 111, 111, 108]⟩, .string ⟨#[99, 111, 117, 110, 116]⟩, .string ⟨#[109, 111, 110, 101, 121]⟩, .string ⟨#[114, 97, 116, 101]⟩, .string ⟨#[100, 97, 116, 101]⟩, .string ⟨#[109, 111, 110, 101, 121, 115]⟩, .string ⟨#[105, 102]⟩, .string ⟨#[116, 104, 101, 110]⟩, .string ⟨#[101, 108, 115, 101]⟩, .string ⟨#[97, 110, 100]⟩, .string ⟨#[111, 114]⟩, .string ⟨#[110, 111, 116]⟩, .string ⟨#[109, 105, 110]⟩, .string ⟨#[109, 97, 120]⟩, .string ⟨#[115, 117, 109]⟩, .string ⟨#[105, 110]⟩, .string ⟨#[108, 101, 110]⟩, .string ⟨#[97, 116]⟩, .string ⟨#[116, 114, 117, 101]⟩, .string ⟨#[102, 97, 108, 115, 101]⟩] 9))) := (Below.refl _ _).alloc (Nat.le_refl _) _
  have NC : Hid (∀ i, i < 23 → (w.alloc (.cells #[.string ⟨#[105, 110, 112, 117, 116]⟩, .string ⟨#[114, 117, 108, 101]⟩, .string ⟨#[116, 97, 98, 108, 101]⟩, .string ⟨#[98, 111, 111, 108]⟩, .string ⟨#[99, 111, 117, 110, 116]⟩, .string ⟨#[109, 111, 110, 101, 121]⟩, .string ⟨#[114, 97, 116, 101]⟩, .string ⟨#[100, 97, 116, 101]⟩, .string ⟨#[109, 111, 110, 101, 121, 115]⟩, .string ⟨#[105, 102]⟩, .string ⟨#[116, 104, 101, 110]⟩, .string ⟨#[101, 108, 115, 101]⟩, .string ⟨#[97, 110, 100]⟩, .string ⟨#[111, 114]⟩, .string ⟨#[110, 111, 116]⟩, .string ⟨#[109, 105, 110]⟩, .string ⟨#[109, 97, 120]⟩, .string ⟨#[115, 117, 109]⟩, .string ⟨#[105, 110]⟩, .string ⟨#[108, 101, 110]⟩, .string ⟨#[97, 116]⟩, .string ⟨#[116, 114, 117, 101]⟩, .string ⟨#[102, 97, 108, 115, 101]⟩] 9)).cell? ⟨w.heap.size, i, none⟩ = some (.string (tx (kwi i)))) := kw_new w
  generalize (w.alloc _) = w1 at *
  go_wp2_with fail
  go_loopg [4] 23 (fun g iv wr => ∃ j : Nat, j ≤ 23 ∧ g = 23 - j ∧ iv = .int .i64 (j : Nat) ∧ w1 = wr ∧ Hid (∀ i, i < j → kwi i ≠ s.toList))
  case atStart => exact ⟨0, by omega, rfl, rfl, rfl, fun i hi => by omega⟩
  case round =>
    obtain ⟨j, hj, rfl, rfl, rfl, hn⟩ := hrel
    by_cases q : j < 23
    · have q' : (j : Int) < 23 := by omega
      have cj := NC.out j q
      have el := tx_list (kwi j)
      by_cases y : kwi j = s.toList
      · have y' : ((tx (kwi j)).toList == s.toList) = true := by rw [el, y]; exact beq_self_eq_true _
        have E : Hid (keptB s.toList = true) := KI.out.2 ⟨j, q, y⟩
        clear el y
        generalize tx (kwi j) = T at *
        go_wp2_with fail
        go_ret
        exact ⟨by rw [E.out]; rfl, NB.out⟩
      · have y' : ((tx (kwi j)).toList == s.toList) = false := by rw [el]; exact beq_eq_false_iff_ne.2 y
        have NN := hid (fun i hi => by rcases Nat.lt_or_ge i j with c | c
                                       · exact hn.out i c
                                       · obtain rfl : i = j := by omega
                                         exact y : ∀ i, i < j + 1 → kwi i ≠ s.toList)
        clear el y
        generalize tx (kwi j) = T at *
        go_wp2_with fail
        go_roundg (23 - (j + 1))
        case measure => omega
        case rel => exact ⟨j + 1, by omega, rfl, by rw [Int.natCast_add]; rfl, rfl, NN⟩
    · obtain rfl : j = 23 := by omega
      have E : Hid (keptB s.toList = false) := by
        show _ = _
        cases h : keptB s.toList
        · rfl
        · obtain ⟨i, hi, e⟩ := KI.out.1 h
          exact absurd e (hn.out i hi)
      go_wp2_with fail
      go_ret
      exact ⟨by rw [E.out]; rfl, NB.out⟩
def rnN (s:ByteArray) (a:Nat):Nat:=runD (tl s a)
set_option maxHeartbeats 1000000 in
theorem yrun_any (s:ByteArray) (a:Nat) (w:World) (ha:a≤s.size) (hs:s.size<9000000000000000000) :
  Calls Tryd.prog 37 #[.string s,.int .i64 (a:Nat)] w fun e w'=>e=.returned (.int .i64 (rnN s a:Nat))∧Below w.heap.size w w':=by
 go_enter Tryd.func37,Tryd.ntmps37
 go_wp2_with fail
 go_loopg [5] (s.size+1 - a) (fun g iv wr=>∃ k:Nat,a+k≤s.size∧g=s.size+1 - (a+k)∧iv=.int .i64 (k:Nat)∧Below w.heap.size w wr∧Hid (k+runD (tl s (a+k))=rnN s a))
 case atStart=>exact ⟨0,ha,rfl,rfl,Below.refl _ _,Nat.zero_add _⟩
 case round =>
  obtain ⟨k,hk,rfl,rfl,hb,hr⟩:=hrel
  by_cases q:a+k<s.size
  ·have q':(a:Int)+(k:Int)<(s.size:Int):=by omega
   have xi:=congrArg (fun c:UInt8=>(c.toNat:Int)) (bt_at q)
   cases d:dgB (bt s (a+k)).toNat
   ·have HX:=hid (by rw [← hr.out,runD_cons q,d];rfl:rnN s a=k)
    go_wp2_with (go_at_call 34;refine (ydigit_any _ _).mono ?_;rintro e w5 ⟨rfl,rfl⟩)
    go_ret
    exact ⟨by rw [HX.out];rfl,hb⟩
   ·have HX:=hid (by rw [← hr.out,runD_cons q,d,if_pos rfl];show k+1+runD (tl s (a+(k+1)))=_;rw [show a+(k+1)=a+k+1 by omega];omega:k+1+runD (tl s (a+(k+1)))=rnN s a)
    go_wp2_with (go_at_call 34;refine (ydigit_any _ _).mono ?_;rintro e w5 ⟨rfl,rfl⟩)
    go_roundg (s.size+1 - (a+(k+1)))
    case measure=>omega
    case rel=>exact ⟨k+1,by omega,rfl,by rw [Int.natCast_add];rfl,hb,HX⟩
  ·have HX:=hid (by rw [← hr.out,tl_nil (by omega)];rfl:rnN s a=k)
   have q':¬ (a:Int)+(k:Int)<(s.size:Int):=by omega
   go_wp2_with fail
   go_ret
   exact ⟨by rw [HX.out];rfl,hb⟩
def fg (s:ByteArray):Nat:=fig 0 (tl s 0)
def nV (m:Nat) (s:ByteArray):Nat:=if fg s≤m then fg s else 0
def nB (m:Nat) (s:ByteArray):Bool:=decide (fg s≤m)
set_option maxHeartbeats 1000000 in
theorem ynumber_any (s:ByteArray) (m:Nat) (w:World) (hm:m≤4503599627370496) (hd:AllD s) (hs:s.size<9000000000000000000) :
  Calls Tryd.prog 56 #[.string s,.int .i64 (m:Nat)] w fun e w'=>e=.returned (.tuple #[.int .i64 (nV m s:Nat),.bool (nB m s)])∧w=w':=by
 have HD:=hid hd
 clear hd
 go_enter Tryd.func56,Tryd.ntmps56
 go_wp2_with fail
 go_loopg [6,7] s.size (fun g nv iv wr=>∃ k v:Nat,k≤s.size∧g=s.size - k∧v≤m∧nv=.int .i64 (v:Nat)∧iv=.int .i64 (k:Nat)∧w=wr∧Hid (fig v (tl s k)=fg s))
 case atStart=>exact ⟨0,0,Nat.zero_le _,rfl,Nat.zero_le _,rfl,rfl,rfl,rfl⟩
 case round =>
  obtain ⟨k,v,hk,rfl,hv,rfl,rfl,rfl,hr⟩:=hrel
  by_cases q:k<s.size
  ·have q':(k:Int)<(s.size:Int):=by omega
   have xi:=congrArg (fun c:UInt8=>(c.toNat:Int)) (bt_at q)
   obtain ⟨d0,d1⟩:=dgB_of (HD.out _ (bt_mem q))
   have HX:=hid (by rw [← fig_cons q];exact hr.out:fig (10*v+((bt s k).toNat - 48)) (tl s (k+1))=fg s)
   obtain ⟨c,hc⟩:∃ c:Nat,c=(bt s k).toNat - 48:=⟨_,rfl⟩
   have hc':((bt s k).toNat:Int)=c+48:=by omega
   rw [hc'] at xi
   rw [← hc] at HX
   have c9:c≤9:=by omega
   have dv:((m:Nat):Int) / 10=((m / 10:Nat):Int):=by omega
   clear hc hc' d0 d1
   by_cases z:10*v+c≤m
   ·have z0:¬ ((m / 10:Nat):Int)<(v:Int):=by omega
    have z':¬ (m:Int)<10*(v:Int)+(c:Int):=by omega
    obtain ⟨M,hM⟩:∃ M:Nat,M=m / 10:=⟨_,rfl⟩
    rw [← hM] at z0 dv
    clear hM
    go_wp2_with fail
    go_roundg (s.size - (k+1))
    case measure=>omega
    case rel=>exact ⟨k+1,10*v+c,by omega,rfl,z,by congr 1,by rw [Int.natCast_add];rfl,rfl,HX⟩
   ·have F1:=hid (by unfold nV;rw [if_neg (by have:=fig_ge (tl s (k+1)) (10*v+c);rw [HX.out] at this;omega)]:nV m s=0)
    have F2:=hid (by unfold nB;exact decide_eq_false (by have:=fig_ge (tl s (k+1)) (10*v+c);rw [HX.out] at this;omega):nB m s=false)
    have z':(m:Int)<10*(v:Int)+(c:Int):=by omega
    by_cases y:m / 10<v
    ·have z0:((m / 10:Nat):Int)<(v:Int):=by omega
     obtain ⟨M,hM⟩:∃ M:Nat,M=m / 10:=⟨_,rfl⟩
     rw [← hM] at z0 dv
     clear hM y
     go_wp2_with fail
     go_ret2
     exact ⟨by rw [F1.out,F2.out];rfl,rfl⟩
    ·have z0:¬ ((m / 10:Nat):Int)<(v:Int):=by omega
     obtain ⟨M,hM⟩:∃ M:Nat,M=m / 10:=⟨_,rfl⟩
     rw [← hM] at z0 dv
     clear hM y
     go_wp2_with fail
     go_ret2
     exact ⟨by rw [F1.out,F2.out];rfl,rfl⟩
  ·have q':¬ (k:Int)<(s.size:Int):=by omega
   have e:=hr.out
   rw [tl_nil (by omega)] at e
   have e:v=fg s:=e
   have F1:=hid (by unfold nV;rw [if_pos (by omega),e]:nV m s=v)
   have F2:=hid (by unfold nB;exact decide_eq_true (by omega):nB m s=true)
   clear e
   go_wp2_with fail
   go_ret2
   exact ⟨by rw [F1.out,F2.out];rfl,rfl⟩
theorem ymoney_any (a c:ByteArray) (w:World) (ha:AllD a) (hc:AllD c) (h9:fg c≤99) (sa:a.size<9000000000000000000) (sc:c.size<9000000000000000000) :
  Calls Tryd.prog 38 #[.string a,.string c] w fun e w'=>e=.returned (.tuple #[.int .i64 ((if 100*fg a+fg c≤4503599627370496 then 100*fg a+fg c else 0:Nat):Int),.bool (decide (100*fg a+fg c≤4503599627370496))])∧w=w':=by
 have K1:=hid (fun w=>ynumber_any a 4503599627370496 w (by omega) ha sa:∀ w,Calls Tryd.prog 56 #[.string a,.int .i64 4503599627370496] w fun e w'=>e=.returned (.tuple #[.int .i64 (nV 4503599627370496 a:Nat),.bool (nB 4503599627370496 a)])∧w=w')
 have K2:=hid (fun w=>ynumber_any c 99 w (by omega) hc sc:∀ w,Calls Tryd.prog 56 #[.string c,.int .i64 99] w fun e w'=>e=.returned (.tuple #[.int .i64 (nV 99 c:Nat),.bool (nB 99 c)])∧w=w')
 have e2:nV 99 c=fg c:=if_pos h9
 rw [e2] at K2
 clear e2
 unfold nV nB at K1
 unfold nB at K2
 generalize fg a=V at *
 generalize fg c=C at *
 by_cases z:100*V+C≤4503599627370496
 ·rw [if_pos z,decide_eq_true z]
  rw [if_pos (by omega),decide_eq_true (by omega)] at K1
  rw [decide_eq_true h9] at K2
  have z1:¬ (45035996273704:Int)<(V:Int):=by omega
  have z2:¬ (4503599627370496:Int)<100*(V:Int)+(C:Int):=by omega
  go_enter Tryd.func38,Tryd.ntmps38
  go_wp2_with (first | (go_at_call 56;with_reducible refine Calls.mono (K1.out _) ?_;rintro e w1 ⟨rfl,rfl⟩) | (go_at_call 56;with_reducible refine Calls.mono (K2.out _) ?_;rintro e w1 ⟨rfl,rfl⟩))
  go_ret2
  exact ⟨by congr 1,rfl⟩
 ·rw [if_neg z,decide_eq_false z]
  rw [decide_eq_true h9] at K2
  by_cases y:V≤4503599627370496
  ·rw [if_pos y,decide_eq_true y] at K1
   by_cases x:V≤45035996273704
   ·have z1:¬ (45035996273704:Int)<(V:Int):=by omega
    have z2:(4503599627370496:Int)<100*(V:Int)+(C:Int):=by omega
    go_enter Tryd.func38,Tryd.ntmps38
    go_wp2_with (first | (go_at_call 56;with_reducible refine Calls.mono (K1.out _) ?_;rintro e w1 ⟨rfl,rfl⟩) | (go_at_call 56;with_reducible refine Calls.mono (K2.out _) ?_;rintro e w1 ⟨rfl,rfl⟩))
    go_ret2
    exact ⟨rfl,rfl⟩
   ·have z1:(45035996273704:Int)<(V:Int):=by omega
    go_enter Tryd.func38,Tryd.ntmps38
    go_wp2_with (first | (go_at_call 56;with_reducible refine Calls.mono (K1.out _) ?_;rintro e w1 ⟨rfl,rfl⟩) | (go_at_call 56;with_reducible refine Calls.mono (K2.out _) ?_;rintro e w1 ⟨rfl,rfl⟩))
    go_ret2
    exact ⟨rfl,rfl⟩
  ·rw [if_neg y,decide_eq_false y] at K1
   go_enter Tryd.func38,Tryd.ntmps38
   go_wp2_with (first | (go_at_call 56;with_reducible refine Calls.mono (K1.out _) ?_;rintro e w1 ⟨rfl,rfl⟩) | (go_at_call 56;with_reducible refine Calls.mono (K2.out _) ?_;rintro e w1 ⟨rfl,rfl⟩))
   go_ret2
   exact ⟨rfl,rfl⟩
theorem fg_tx (l:List UInt8):fg (tx l)=fig 0 l:=by unfold fg tl tx;simp
theorem tx_sz (l:List UInt8):(tx l).size=l.length:=by simp [tx,ByteArray.size]
theorem tx_cat (l m:List UInt8):tx l ++ tx m=tx (l ++ m):=by
 rw [← tx_data (tx l ++ tx m),cat_data]
 simp [tx]
theorem pad_more {l:List UInt8} (h:l.length<4):pad4 (l ++ [48])=pad4 l:=by
 match l,h with
 | [],_=>rfl
 | [a],_=>rfl
 | [a,b],_=>rfl
 | [a,b,c],_=>rfl
 | a :: b :: c :: d :: l,h=>simp at h;omega
theorem pad_done {l:List UInt8} (h:l.length=4):pad4 l=l:=by
 unfold pad4
 rw [List.take_append_of_le_length (by omega),List.take_of_length_le (by omega)]
theorem fig_lt (l:List UInt8):∀ n,(∀ c ∈ l,c.toNat≤57)→fig n l<(n+1)*10 ^ l.length:=by
 induction l with
 | nil=>intro n _;show n<(n+1)*1;omega
 | cons c l ih =>
  intro n h
  have h1:c.toNat≤57:=h c List.mem_cons_self
  have h2:=ih (10*n+(c.toNat - 48)) (fun d hd=>h d (List.mem_cons_of_mem _ hd))
  have h4:(n+1)*10 ^ (c :: l).length=(10*(n+1))*10 ^ l.length:=by rw [List.length_cons,Nat.pow_succ,Nat.mul_comm (10 ^ l.length) 10,← Nat.mul_assoc,Nat.mul_comm (n+1) 10]
  rw [h4]
  change fig (10*n+(c.toNat - 48)) l<_
  generalize 10 ^ l.length=X at *
  generalize c.toNat=C at *
  have h3:(10*n+(C - 48)+1)*X≤(10*(n+1))*X:=Nat.mul_le_mul_right X (by omega)
  exact Nat.lt_of_lt_of_le h2 h3
theorem fig_4 {l:List UInt8} (h:l.length≤4) (hd:∀ c ∈ l,dgB c.toNat=true):fig 0 (pad4 l)≤9999:=by
 have key:∀ c ∈ pad4 l,c.toNat≤57:=by
  intro c hc
  have:=pad_dig hd c (by simpa [tx] using hc)
  have:=(dgB_of this).2
  omega
 have hl:(pad4 l).length=4:=by unfold pad4;simp
 have:=fig_lt (pad4 l) 0 key
 rw [hl] at this
 omega
theorem fig_of4 (n:Nat):∀ l:List UInt8,l.length=4→fig n l=10000*n+fig 0 l
 | [a,b,c,d],_=>by
  show 10*(10*(10*(10*n+(a.toNat - 48))+(b.toNat - 48))+(c.toNat - 48))+(d.toNat - 48)=10000*n+(10*(10*(10*(10*0+(a.toNat - 48))+(b.toNat - 48))+(c.toNat - 48))+(d.toNat - 48))
  omega
theorem fig_of2 (n:Nat):∀ l:List UInt8,l.length=2→fig n l=100*n+fig 0 l
 | [a,b],_=>by
  show 10*(10*n+(a.toNat - 48))+(b.toNat - 48)=100*n+(10*(10*0+(a.toNat - 48))+(b.toNat - 48))
  omega
theorem fig_pad (n:Nat) (l:List UInt8):fig n (pad4 l)=10000*n+fig 0 (pad4 l):=fig_of4 n _ (by unfold pad4;simp)
def rtV (x:Nat):Nat:=if x≤1000000000000 then x else 0
def rtB (x:Nat):Bool:=decide (x≤1000000000000)
set_option maxHeartbeats 2000000 in
theorem ypercent_any (a:ByteArray) (l:List UInt8) (w:World) (ha:AllD a) (hl:l.length≤4) (hd:∀ c ∈ l,dgB c.toNat=true) (sa:a.size<9000000000000000000) :
  Calls Tryd.prog 55 #[.string a,.string (tx l)] w fun e w'=>e=.returned (.tuple #[.int .i64 (rtV (10000*fg a+fig 0 (pad4 l)):Nat),.bool (rtB (10000*fg a+fig 0 (pad4 l)))])∧w=w':=by
 have K1:=hid (fun w=>ynumber_any a 1000000000000 w (by omega) ha sa:∀ w,Calls Tryd.prog 56 #[.string a,.int .i64 1000000000000] w fun e w'=>e=.returned (.tuple #[.int .i64 (nV 1000000000000 a:Nat),.bool (nB 1000000000000 a)])∧w=w')
 have h9:=fig_4 hl hd
 have K2:=hid (fun w=>ynumber_any (tx (pad4 l)) 9999 w (by omega) (pad_dig hd) (by rw [tx_sz];unfold pad4;simp):∀ w,Calls Tryd.prog 56 #[.string (tx (pad4 l)),.int .i64 9999] w fun e w'=>e=.returned (.tuple #[.int .i64 (nV 9999 (tx (pad4 l)):Nat),.bool (nB 9999 (tx (pad4 l)))])∧w=w')
 have e2:nV 9999 (tx (pad4 l))=fig 0 (pad4 l):=by unfold nV;rw [fg_tx,if_pos h9]
 have e3:nB 9999 (tx (pad4 l))=true:=by unfold nB;rw [fg_tx,decide_eq_true h9]
 rw [e2,e3] at K2
 clear e2 e3 hd
 unfold nV nB at K1
 generalize fg a=V at *
 have HP:=hid (rfl:pad4 l=pad4 l)
 generalize fig 0 (pad4 l)=C at *
 generalize hT:tx (pad4 l)=T at K2
 have HT:=hid hT
 clear hT HP
 go_enter Tryd.func55,Tryd.ntmps55
 go_wp2_with fail
 go_loopg [1] (5 - l.length) (fun g pv wr=>∃ (p:ByteArray) (m:List UInt8),p=tx m∧m.length≤4∧p.size=m.length∧g=5 - m.length∧pv=.string p∧w=wr∧Hid (tx (pad4 m)=T))
 case atStart=>exact ⟨_,l,rfl,hl,tx_sz l,rfl,rfl,rfl,HT⟩
 case round =>
  obtain ⟨p,m,hm,hml,hz,rfl,rfl,rfl,hr⟩:=hrel
  have HM:=hid hm
  clear hm
  by_cases q:m.length<4
  ·have q':(p.size:Int)<4:=by omega
   have NX:=hid (by rw [pad_more q];exact hr.out:tx (pad4 (m ++ [48]))=T)
   have NP:=hid (by rw [HM.out];exact tx_cat m [48]:p ++ ⟨#[48]⟩=tx (m ++ [48]))
   go_wp2_with fail
   go_roundg (5 - (m.length+1))
   case measure=>omega
   case rel=>exact ⟨_,m ++ [48],NP.out,by simp;omega,by rw [NP.out,tx_sz],by simp,rfl,rfl,NX⟩
  ·have q':¬ (p.size:Int)<4:=by omega
   have e:p=T:=by rw [HM.out,← hr.out,pad_done (by omega)]
   subst e
   clear hr HM
   by_cases z:10000*V+C≤1000000000000
   ·have F1:=hid (show rtV (10000*V+C)=10000*V+C from if_pos z)
    have F2:=hid (show rtB (10000*V+C)=true from decide_eq_true z)
    rw [if_pos (by omega),decide_eq_true (by omega)] at K1
    have z1:¬ (100000000:Int)<(V:Int):=by omega
    have z2:¬ (1000000000000:Int)<10000*(V:Int)+(C:Int):=by omega
    go_wp2_with (first | (go_at_call 56;with_reducible refine Calls.mono (K1.out _) ?_;rintro e w1 ⟨rfl,rfl⟩) | (go_at_call 56;with_reducible refine Calls.mono (K2.out _) ?_;rintro e w1 ⟨rfl,rfl⟩))
    go_ret2
    exact ⟨by rw [F1.out,F2.out];congr 1,rfl⟩
   ·have F1:=hid (show rtV (10000*V+C)=0 from if_neg z)
    have F2:=hid (show rtB (10000*V+C)=false from decide_eq_false z)
    by_cases y:V≤1000000000000
    ·rw [if_pos y,decide_eq_true y] at K1
     by_cases x:V≤100000000
     ·have z1:¬ (100000000:Int)<(V:Int):=by omega
      have z2:(1000000000000:Int)<10000*(V:Int)+(C:Int):=by omega
      go_wp2_with (first | (go_at_call 56;with_reducible refine Calls.mono (K1.out _) ?_;rintro e w1 ⟨rfl,rfl⟩) | (go_at_call 56;with_reducible refine Calls.mono (K2.out _) ?_;rintro e w1 ⟨rfl,rfl⟩))
      go_ret2
      exact ⟨by rw [F1.out,F2.out];rfl,rfl⟩
     ·have z1:(100000000:Int)<(V:Int):=by omega
      go_wp2_with (first | (go_at_call 56;with_reducible refine Calls.mono (K1.out _) ?_;rintro e w1 ⟨rfl,rfl⟩) | (go_at_call 56;with_reducible refine Calls.mono (K2.out _) ?_;rintro e w1 ⟨rfl,rfl⟩))
      go_ret2
      exact ⟨by rw [F1.out,F2.out];rfl,rfl⟩
    ·rw [if_neg y,decide_eq_false y] at K1
     go_wp2_with (first | (go_at_call 56;with_reducible refine Calls.mono (K1.out _) ?_;rintro e w1 ⟨rfl,rfl⟩) | (go_at_call 56;with_reducible refine Calls.mono (K2.out _) ?_;rintro e w1 ⟨rfl,rfl⟩))
     go_ret2
     exact ⟨by rw [F1.out,F2.out];rfl,rfl⟩
def LgY (s:ByteArray) (a:Nat) (o:Option (Nat × Nat × Nat)) (e:Ending):Prop :=
 match o with
 | some (k,n,v)=>e=.returned (.tuple #[.agg #[.int .i64 (k:Nat),.string (s.extract a (a+n)),.int .i64 (v:Nat),.int .i64 (a:Nat)],.int .i64 (n:Nat)])
 | none=>∃ k t n b,e=.returned (.tuple #[.agg #[.int .i64 k,.string t,.int .i64 n,.int .i64 b],.int .i64 0])
theorem dEnd_rn (s:ByteArray) (a:Nat):dEnd s a=a+rnN s a:=rfl
theorem fg_ext (s:ByteArray) (a e:Nat):fg (s.extract a e)=fig 0 ((tl s a).take (e - a)):=by
 unfold fg
 have:tl (s.extract a e) 0=(tl s a).take (e - a):=by show (s.extract a e).data.toList.drop 0=_;rw [List.drop_zero,ext_data];rfl
 rw [this]
def prt (s:ByteArray) (E:Nat):List UInt8:=((tl s E).take (pctW (tl s E))).drop 1
theorem prt_len (s:ByteArray) (E:Nat):(prt s E).length≤4:=by
 have:=pctW_le (tl s E)
 unfold prt
 simp
 omega
theorem prt_dig (s:ByteArray) (E:Nat):∀ c ∈ prt s E,dgB c.toNat=true:=take_dot _
theorem prt_none {s:ByteArray} {E:Nat} (h:pctE s E=E):prt s E=[]:=by
 have e:pctW (tl s E)=0:=by unfold pctE at h;omega
 unfold prt
 rw [e]
 rfl
theorem prt_some {s:ByteArray} {E:Nat} (h:pctE s E≠E):s.extract (E+1) (pctE s E)=tx (prt s E):=by
 rw [ext_is]
 unfold prt
 rw [List.drop_take,tl_drop,show pctE s E - (E+1)=pctW (tl s E) - 1 by unfold pctE;omega]
theorem rate_is (s:ByteArray) (a:Nat):rateV (tl s a)=10000*fg (s.extract a (dEnd s a))+fig 0 (pad4 (prt s (dEnd s a))):=by
 unfold rateV prt
 rw [tl_drop,fig_pad,fg_ext,show dEnd s a - a=runD (tl s a) by unfold dEnd;omega]
 rfl
theorem numY_rate {s:ByteArray} {a:Nat} (h:dayW (tl s a)=none) (hp:pctB s (dEnd s a)=true) (hv:rtB (rateV (tl s a))=true) :
  numW (tl s a)=some (5,pctE s (dEnd s a)+1 - a,rtV (rateV (tl s a))):=by
 have hv:rateV (tl s a)≤1000000000000:=of_decide_eq_true hv
 unfold numW
 rw [h,isPct_is,hp]
 dsimp only
 rw [if_pos rfl,if_pos hv]
 have:=rate_len s a
 unfold rtV
 rw [if_pos hv,show pctE s (dEnd s a)+1 - a=runD (tl s a)+pctW ((tl s a).drop (runD (tl s a)))+1 by omega]
theorem numY_rate_no {s:ByteArray} {a:Nat} (h:dayW (tl s a)=none) (hp:pctB s (dEnd s a)=true) (hv:rtB (rateV (tl s a))=false):numW (tl s a)=none:=by
 have hv:¬ rateV (tl s a)≤1000000000000:=of_decide_eq_false hv
 unfold numW
 rw [h,isPct_is,hp]
 dsimp only
 rw [if_pos rfl,if_neg hv]
theorem numY_count {s:ByteArray} {a:Nat} (h:dayW (tl s a)=none) (hp:pctB s (dEnd s a)=false) (hv:nB 4503599627370496 (s.extract a (dEnd s a))=true) :
  numW (tl s a)=some (3,rnN s a,nV 4503599627370496 (s.extract a (dEnd s a))):=by
 have hv:fg (s.extract a (dEnd s a))≤4503599627370496:=of_decide_eq_true hv
 have e:=fg_ext s a (dEnd s a)
 rw [show dEnd s a - a=runD (tl s a) by unfold dEnd;omega] at e
 unfold numW nV
 rw [h,isPct_is,hp]
 dsimp only
 rw [if_neg (by decide),← e,if_pos hv,if_pos hv]
 rfl
theorem numY_count_no {s:ByteArray} {a:Nat} (h:dayW (tl s a)=none) (hp:pctB s (dEnd s a)=false) (hv:nB 4503599627370496 (s.extract a (dEnd s a))=false):numW (tl s a)=none:=by
 have hv:¬ fg (s.extract a (dEnd s a))≤4503599627370496:=of_decide_eq_false hv
 have e:=fg_ext s a (dEnd s a)
 rw [show dEnd s a - a=runD (tl s a) by unfold dEnd;omega] at e
 unfold numW
 rw [h,isPct_is,hp]
 dsimp only
 rw [if_neg (by decide),← e,if_neg hv]
theorem pct_nodot {s:ByteArray} {E:Nat} (h:¬ (E<s.size∧(bt s E).toNat=46)):pctE s E=E:=by
 rw [pctE_is]
 by_cases q:E<s.size
 ·rw [dotE_no q (fun x=>h ⟨q,x⟩),if_pos (by omega)]
 ·rw [dotE_nil (by omega),if_pos (by omega)]
theorem pct_dot {s:ByteArray} {E:Nat} (q:E<s.size) (d:(bt s E).toNat=46):pctE s E=if 1≤rnN s (E+1)∧rnN s (E+1)≤4 then E+1+rnN s (E+1) else E:=by
 rw [pctE_is,dotE_yes q d,dEnd_rn]
 generalize rnN s (E+1)=r
 by_cases z:r=0
 ·have e:(if E+1+r=E+1 then E else E+1+r)=E:=if_pos (by omega)
  rw [e,if_pos (by omega),if_neg (by omega)]
 ·have e:(if E+1+r=E+1 then E else E+1+r)=E+1+r:=if_neg (by omega)
  rw [e]
  by_cases y:r≤4
  ·rw [if_pos (by omega),if_pos (by omega)]
  ·rw [if_neg (by omega),if_neg (by omega)]
def oneS:ByteArray:=⟨#[40,41,123,125,91,93,44,59,58,61,43,45,42,47,60,62]⟩
theorem one_at:∀ i,i<16→sg (i+4)=[bt oneS i]∧bt oneS i≠0:=by
 have:∀ i:Fin 16,sg (i.val+4)=[bt oneS i.val]∧bt oneS i.val≠0:=by decide
 exact fun i hi=>this ⟨i,hi⟩
theorem one_hp {s:ByteArray} (h:0<s.size) {i:Nat} (hi:i<16):hpB (tl s 0) (sg (i+4))=(((bt s 0).toNat:Int)==((bt oneS i).toNat:Int)):=by
 obtain ⟨e1,e2⟩:=one_at i hi
 rw [e1,hp_1 _ _ e2,tl_cons h]
 show decide ((bt s 0).toNat=(bt oneS i).toNat)=_
 rw [Bool.eq_iff_iff]
 simp
 omega
theorem two_hp {s:ByteArray} (h:2≤s.size) {i:Nat} (hi:i<4):((s.extract 0 2).toList==(tx (sg i)).toList)=hpB (tl s 0) (sg i):=by
 have e:(sg i).length=2:=by
  have:∀ i:Fin 4,(sg i.val).length=2:=by decide
  exact this ⟨i,hi⟩
 unfold hpB
 rw [tx_list,ByteArray.toList_eq,ext_data,e]
 rfl
theorem two_no {s:ByteArray} (h:¬ 2≤s.size) {i:Nat} (hi:i<4):hpB (tl s 0) (sg i)=false:=by
 have e:(sg i).length=2:=by
  have:∀ i:Fin 4,(sg i.val).length=2:=by decide
  exact this ⟨i,hi⟩
 unfold hpB
 rw [beq_eq_false_iff_ne]
 intro x
 have:=congrArg List.length x
 rw [List.length_take,tl_len] at this
 omega
def sgT (s:ByteArray):ByteArray:=tx ((tl s 0).take (sgnN (tl s 0)))
theorem sgT_at {s:ByteArray} {k:Nat} (hk:k<20) (hn:∀ j,j<k→hpB (tl s 0) (sg j)=false) (hy:hpB (tl s 0) (sg k)=true):sgT s=tx (sg k):=by
 unfold sgT
 rw [sg_at hk hn hy]
 exact congrArg tx (beq_iff_eq.1 hy)
theorem sgT_no {s:ByteArray} (hn:∀ j,j<20→hpB (tl s 0) (sg j)=false):sgT s=⟨#[]⟩:=by
 unfold sgT
 rw [sg_none hn]
 rfl
theorem twoA (w:World):∀ i,i<4→(w.alloc (.cells #[.string ⟨#[60,61]⟩,.string ⟨#[62,61]⟩,.string ⟨#[61,61]⟩,.string ⟨#[33,61]⟩] 9)).cell? ⟨w.heap.size,i,none⟩=some (.string (tx (sg i))):=fun i hi=>by
 rw [cell_of_row _ _ _ _ _ _ (heap_alloc_new w _)]
 match i,hi with
 | 0,_=>rfl
 | 1,_=>rfl
 | 2,_=>rfl
 | 3,_=>rfl
 | i+4,hi=>omega
set_option maxRecDepth 100000 in
set_option maxHeartbeats 4000000 in
theorem ysign_any (s : ByteArray) (w : World) (h0 : 0 < s.size) (hs : s.size < 9000000000000000000) :
    Calls Tryd.prog 39 #[.string s] w fun e w' => e = .returned (.string (sgT s)) ∧ Below w.heap.size w w' := by
  have SA := hid fun k hk hn hy => sgT_at (s := s) (k := k) hk hn hy
  have SN := hid fun hn => sgT_no (s := s) hn
  generalize hTT : sgT s = TT at *
  clear hTT
  go_enter Tryd.func39, Tryd.ntmps39
  go_upto_region 2 with fail
  have NB : Hid (Below w.heap.size w (w.alloc (.cells #[.string ⟨#[60, 61]⟩, .string ⟨#[62, 61]⟩, .string ⟨#[61, 61]⟩, .string ⟨#[33, 61]⟩] 9))) := (Below.refl _ _).alloc (Nat.le_refl _) _
  have NC := hid (twoA w)
  generalize (w.alloc _) = w1 at *
  go_wp2_with fail
  go_loopg [4] 5 (fun g iv wr => ∃ j : Nat, j ≤ 4 ∧ g = 5 - j ∧ iv = .int .i64 (j : Nat) ∧ Hid (Below w1.heap.size w1 wr) ∧ Hid (∀ i, i < j → hpB (tl s 0) (sg i) = false))
  case atStart => exact ⟨0, by omega, rfl, rfl, Below.refl _ _, fun i hi => by omega⟩
  case round =>
    obtain ⟨j, hj, rfl, rfl, HB, hn⟩ := hrel
    by_cases q : j < 4
    · have q' : (j : Int) < 4 := by omega
      have c1 := NC.out j q
      have cj : wr.cell? ⟨w.heap.size, j, none⟩ = some (.string (tx (sg j))) := by rw [HB.out.cell (p := ⟨w.heap.size, j, none⟩) (World.block_lt_of_cell? _ _ c1)]; exact c1
      clear c1
      cases y : hpB (tl s 0) (sg j)
      · have NN := hid (fun i hi => by rcases Nat.lt_or_ge i j with c | c
                                       · exact hn.out i c
                                       · obtain rfl : i = j := by omega
                                         exact y : ∀ i, i < j + 1 → hpB (tl s 0) (sg i) = false)
        by_cases z : 2 ≤ s.size
        · have z' : (2 : Int) ≤ (s.size : Int) := by omega
          have e := two_hp z q
          rw [y] at e
          generalize tx (sg j) = T at *
          clear y
          go_upto_region 5 with fail
          go_quiet (fail)
          have B3 := hid (nextB HB.out (below_drewN wr nq))
          generalize wr.drewN nq = w3 at *
          go_wp2_with fail
          go_roundg (5 - (j + 1))
          case measure => omega
          case rel => exact ⟨j + 1, by omega, rfl, by rw [Int.natCast_add]; rfl, B3, NN⟩
        · have z' : decide ((2 : Int) ≤ (s.size : Int)) = false := decide_eq_false (by omega)
          generalize tx (sg j) = T at *
          clear y
          go_upto_region 5 with fail
          go_quiet (fail)
          have B3 := hid (nextB HB.out (below_drewN wr nq))
          generalize wr.drewN nq = w3 at *
          go_wp2_with fail
          go_roundg (5 - (j + 1))
          case measure => omega
          case rel => exact ⟨j + 1, by omega, rfl, by rw [Int.natCast_add]; rfl, B3, NN⟩
      · have z : 2 ≤ s.size := by
          rcases Nat.lt_or_ge s.size 2 with c | c
          · rw [two_no (by omega) q] at y; cases y
          · exact c
        have z' : (2 : Int) ≤ (s.size : Int) := by omega
        have e := two_hp z q
        have FF := hid (SA.out j (by omega) hn.out y)
        rw [y] at e
        generalize tx (sg j) = T at *
        clear y
        go_upto_region 5 with fail
        go_quiet (fail)
        have B3 := hid (nextB HB.out (below_drewN wr nq))
        have cj : (wr.drewN nq).cell? ⟨w.heap.size, j, none⟩ = some (.string T) := by rw [(below_drewN wr nq).cell (p := ⟨w.heap.size, j, none⟩) (World.block_lt_of_cell? _ _ cj)]; exact cj
        generalize wr.drewN nq = w3 at *
        go_wp2_with fail
        go_ret
        exact ⟨by rw [FF.out]; rfl, nextB NB.out B3.out⟩
    · obtain rfl : j = 4 := by omega
      clear NC
      go_upto_region 9 with fail
      have hO : (⟨#[40, 41, 123, 125, 91, 93, 44, 59, 58, 61, 43, 45, 42, 47, 60, 62]⟩ : ByteArray) = oneS := rfl
      rw [hO]
      have oz : oneS.size = 16 := rfl
      have OH := hid fun i hi => one_hp (s := s) h0 (i := i) hi
      have OA := hid one_at
      have OB := hid fun i hi => bt_at (s := oneS) (k := i) hi
      clear hO
      generalize oneS = O at *
      go_loopg [6] 17 (fun g iv wz => ∃ j : Nat, j ≤ 16 ∧ g = 17 - j ∧ iv = .int .i64 (j : Nat) ∧ Hid (Below w1.heap.size w1 wz) ∧ Hid (∀ i, i < j + 4 → hpB (tl s 0) (sg i) = false))
      case atStart => exact ⟨0, by omega, rfl, rfl, HB, hn⟩
      case round =>
        clear HB hn
        obtain ⟨j, hj, rfl, rfl, HB, hn⟩ := hrel
        by_cases q : j < 16
        · have q' : (j : Int) < 16 := by omega
          have xi := congrArg (fun c : UInt8 => (c.toNat : Int)) (OB.out j (by omega))
          have x0 := congrArg (fun c : UInt8 => (c.toNat : Int)) (bt_at h0)
          have e := OH.out j q
          cases y : hpB (tl s 0) (sg (j + 4))
          · have NN := hid (fun i hi => by rcases Nat.lt_or_ge i (j + 4) with c | c
                                           · exact hn.out i c
                                           · obtain rfl : i = j + 4 := by omega
                                             exact y : ∀ i, i < j + 1 + 4 → hpB (tl s 0) (sg i) = false)
            rw [y] at e
            clear y
            replace e := e.symm
            go_upto_region 11 with fail
            go_quiet (fail)
            have B3 := hid (nextB HB.out (below_drewN wr nq))
            generalize wr.drewN nq = w3 at *
            go_wp2_with fail
            go_roundg (17 - (j + 1))
            case measure => omega
            case rel => exact ⟨j + 1, by omega, rfl, by rw [Int.natCast_add]; rfl, B3, NN⟩
          · have FF := hid (SA.out (j + 4) (by omega) hn.out y)
            have FG := hid (by
              have e1 := beq_iff_eq.1 y
              obtain ⟨o1, o2⟩ := OA.out j q
              rw [FF.out, ext_is]
              rw [o1] at e1 ⊢
              exact congrArg tx e1.symm : TT = s.extract 0 1)
            rw [y] at e
            clear y
            replace e := e.symm
            go_upto_region 11 with fail
            go_quiet (fail)
            have B3 := hid (nextB HB.out (below_drewN wr nq))
            generalize wr.drewN nq = w3 at *
            go_wp2_with fail
            go_ret
            exact ⟨by rw [FG.out]; rfl, nextB NB.out B3.out⟩
        · obtain rfl : j = 16 := by omega
          have FF := hid (SN.out hn.out)
          go_wp2_with fail
          go_ret
          exact ⟨by rw [FF.out]; rfl, nextB NB.out HB.out⟩
def mtV (x:Nat):Nat:=if x≤4503599627370496 then x else 0
def mtB (x:Nat):Bool:=decide (x≤4503599627370496)
def cB (s:ByteArray) (K E:Nat):Bool:=decide (0<K∧E<s.size∧(bt s E).toNat=46∧rnN s (E+1)=2)
def mC (s:ByteArray) (K E:Nat):ByteArray:=if cB s K E then s.extract (E+1) (E+3) else ⟨#[]⟩
def mX (s:ByteArray) (a K:Nat):Nat:=100*fg (s.extract (a+1) (a+1+K))+fg (mC s K (a+1+K))
theorem dot3_iff (s:ByteArray) (E:Nat):dotW (tl s E)=3 ↔ (E<s.size∧(bt s E).toNat=46∧rnN s (E+1)=2):=by
 by_cases q:E<s.size
 ·have e:dotW (tl s E)=if (bt s E).toNat=46∧rnN s (E+1)≠0 then 1+rnN s (E+1) else 0:=by
   rw [tl_cons q]
   rfl
  rw [e]
  by_cases c:(bt s E).toNat=46∧rnN s (E+1)≠0
  ·rw [if_pos c]
   constructor
   ·intro h;exact ⟨q,c.1,by omega⟩
   ·intro h;have:=h.2.2;omega
  ·rw [if_neg c]
   constructor
   ·intro h;omega
   ·intro h;exact absurd ⟨h.2.1,by omega⟩ c
 ·rw [tl_nil (by omega)]
  constructor
  ·intro h;exact absurd h (by decide)
  ·intro h;exact absurd h.1 q
theorem mC_dig (s:ByteArray) (K E:Nat):AllD (mC s K E)∧fg (mC s K E)≤99∧(mC s K E).size<9000000000000000000:=by
 unfold mC
 cases h:cB s K E
 ·refine ⟨fun c hc=>by simp at hc,?_,by show (⟨#[]⟩:ByteArray).size<_;decide⟩
  show fig 0 []≤99
  decide
 ·obtain ⟨-,q,-,r⟩:=of_decide_eq_true h
  have d:E+1+rnN s (E+1)=E+3:=by omega
  have ad:AllD (s.extract (E+1) (E+3)):=allD_ext (by rw [dEnd_rn];omega)
  have le:E+3≤s.size:=by have:=dEnd_le (s:=s) (a:=E+1) (by omega);rw [dEnd_rn] at this;omega
  refine ⟨ad,?_,?_⟩
  ·have key:∀ c ∈ (tl s (E+1)).take 2,c.toNat≤57:=by
    intro c hc
    have:dgB c.toNat=true:=ad c (by rw [ext_data];exact (by rw [show E+3 - (E+1)=2 by omega];exact hc))
    have:=(dgB_of this).2
    omega
   have hl:((tl s (E+1)).take 2).length=2:=by rw [List.length_take,tl_len];omega
   have:=fig_lt _ 0 key
   rw [hl] at this
   show fg (s.extract (E+1) (E+3))≤99
   rw [fg_ext,show E+3 - (E+1)=2 by omega]
   omega
  ·show (s.extract (E+1) (E+3)).size<_
   rw [ByteArray.size_extract]
   omega
theorem monY_v {s:ByteArray} {a:Nat} (ha:a<s.size) (hK:rnN s (a+1)≠0):monV (tl s a)=mX s a (rnN s (a+1))∧1+monK (tl s a)+monP (tl s a)=1+rnN s (a+1)+(if cB s (rnN s (a+1)) (a+1+rnN s (a+1)) then 3 else 0):=by
 have k:monK (tl s a)=rnN s (a+1):=by unfold monK rnN;rw [tl_drop]
 have d:(tl s a).drop (1+rnN s (a+1))=tl s (a+1+rnN s (a+1)):=by rw [tl_drop];congr 1;omega
 have i3:=dot3_iff s (a+1+rnN s (a+1))
 have iff:(dotW (tl s (a+1+rnN s (a+1)))=3) ↔ cB s (rnN s (a+1)) (a+1+rnN s (a+1))=true:=by
  unfold cB
  rw [decide_eq_true_iff,i3]
  constructor
  ·intro h;exact ⟨by omega,h⟩
  ·intro h;exact h.2
 constructor
 ·unfold monV mX mC
  rw [k,d,tl_drop,fg_ext,show a+1+rnN s (a+1) - (a+1)=rnN s (a+1) by omega]
  by_cases c:dotW (tl s (a+1+rnN s (a+1)))=3
  ·have q:=i3.1 c
   have le:a+1+rnN s (a+1)+3≤s.size:=by have:=dEnd_le (s:=s) (a:=a+1+rnN s (a+1)+1) (by omega);rw [dEnd_rn] at this;omega
   rw [if_pos c,if_pos (iff.1 c),fg_ext,List.drop_take,tl_drop,show a+1+rnN s (a+1)+3 - (a+1+rnN s (a+1)+1)=2 by omega]
   exact fig_of2 _ _ (by rw [List.length_take,tl_len];omega)
  ·rw [if_neg c,if_neg (fun x=>c (iff.2 x))]
   exact fig_of2 _ [48,48] rfl
 ·unfold monP
  rw [k,d]
  by_cases c:dotW (tl s (a+1+rnN s (a+1)))=3
  ·rw [if_pos c,if_pos (iff.1 c)]
  ·rw [if_neg c,if_neg (fun x=>c (iff.2 x))]
theorem monY_0 {s:ByteArray} {a:Nat} (h:rnN s (a+1)=0):monW (tl s a)=none:=by
 unfold monW
 rw [if_pos]
 unfold monK
 rw [tl_drop]
 exact h
theorem monY_yes {s:ByteArray} {a:Nat} (ha:a<s.size) (hK:rnN s (a+1)≠0) (hB:mtB (mX s a (rnN s (a+1)))=true):monW (tl s a)=some (4,1+rnN s (a+1)+(if cB s (rnN s (a+1)) (a+1+rnN s (a+1)) then 3 else 0),mtV (mX s a (rnN s (a+1)))):=by
 obtain ⟨e1,e2⟩:=monY_v ha hK
 have k:monK (tl s a)=rnN s (a+1):=by unfold monK rnN;rw [tl_drop]
 have hB:mX s a (rnN s (a+1))≤4503599627370496:=of_decide_eq_true hB
 unfold monW mtV
 rw [if_neg (by omega),e1,e2,if_pos hB,if_pos hB]
theorem monY_no {s:ByteArray} {a:Nat} (ha:a<s.size) (hK:rnN s (a+1)≠0) (hB:mtB (mX s a (rnN s (a+1)))=false):monW (tl s a)=none:=by
 obtain ⟨e1,e2⟩:=monY_v ha hK
 have hB:¬ mX s a (rnN s (a+1))≤4503599627370496:=of_decide_eq_false hB
 unfold monW
 rw [e1,if_neg hB]
 split <;> rfl
theorem ymon_at (s:ByteArray) (a:Nat) (w:World) (ha:a<s.size) (hs:s.size<9000000000000000):Calls Tryd.prog 38 #[.string (s.extract (a+1) (a+1+rnN s (a+1))),.string (mC s (rnN s (a+1)) (a+1+rnN s (a+1)))] w fun e w'=>e=.returned (.tuple #[.int .i64 (mtV (mX s a (rnN s (a+1))):Nat),.bool (mtB (mX s a (rnN s (a+1))))])∧w=w':=by
 obtain ⟨h1,h2,h3⟩:=mC_dig s (rnN s (a+1)) (a+1+rnN s (a+1))
 exact ymoney_any _ _ w (allD_ext (Nat.le_refl _)) h1 h2 (by rw [ByteArray.size_extract];omega) h3
def CutY (s:ByteArray) (w:World) (e:Ending) (w':World):Prop:=Below w.heap.size w w' ∧
 match cutF s 0 with
 | (R,none)=>∃ v,e=.returned (.tuple #[v,.int .i64 (-1)])∧Rw w' w.heap.size 58 s v R
 | (_,some b)=>e=.returned (.tuple #[.slice none 0 0,.int .i64 (b:Nat)])
end Go.Proofs.YtbeahnehjannpaaDoor
