/- Parts of the proof. -/
import Derived.Test.YtbeahnehjannpaaDoorRows
import Derived.WalkKit
import Derived.WalkSpells
import Derived.WalkLawsBesides
import Derived.Handy
import Derived.Deep.LoopGhost
import Derived.Laws.BytesArg
import Derived.Lib.SlBytesConst
import Derived.Deep.RegionHeld3
import Derived.Deep.QuietTactic
import Derived.Deep.DeepCutAuto
import Derived.Deep.RegionWith
import Derived.Laws.Concat
import Derived.RegionTactic
namespace Go.Proofs.YtbeahnehjannpaaDoor
open Go.RowKit
set_option linter.unusedVariables false
set_option linter.unusedSimpArgs false
def leapB (y:Int):Bool:=(y.tmod 4==0 && y.tmod 100 != 0) || y.tmod 400==0
def days (y m:Int):Int:=if m=2 then (if leapB y then 29 else 28) else if m=4∨m=6∨m=9∨m=11 then 30 else if 1≤m∧m≤12 then 31 else 0
def ahead (y:Int):Int:=(y - 1) / 4 - (y - 1) / 100+(y - 1) / 400
def ny (y:Int):Int:=(y - 1900)*365+ahead y - 460
def bef (y:Int):Nat→Int
 | 0=>0
 | k+1=>bef y k+days y (k+1)
def yl (y:Int):Int:=if leapB y then 366 else 365
theorem leap_iff {y:Int} (h:0≤y):leapB y=true ↔ (y % 4=0∧¬ y % 100=0)∨y % 400=0:=by
 unfold leapB
 rw [Int.tmod_eq_emod_of_nonneg h,Int.tmod_eq_emod_of_nonneg h,Int.tmod_eq_emod_of_nonneg h]
 simp
theorem days_ge (y m:Int):0≤days y m:=by
 unfold days;split <;> split <;> (try split) <;> omega
theorem days_le (y m:Int):days y m≤31:=by
 unfold days;split <;> split <;> (try split) <;> omega
theorem days_in {y m:Int} (h:0<days y m):1≤m∧m≤12:=by
 unfold days at h;split at h
 ·omega
 ·split at h
  ·omega
  ·split at h
   ·omega
   ·omega
theorem bef_step (y:Int) (k:Nat):bef y (k+1)=bef y k+days y (k+1):=rfl
theorem bef_mono (y : Int) {j k : Nat} (h : j ≤ k) : bef y j ≤ bef y k := by
  induction k with
  | zero => obtain rfl : j = 0 := by omega
            exact Int.le_refl _
  | succ k ih =>
    rcases Nat.lt_or_ge j (k + 1) with c | c
    · have := ih (by omega); have := days_ge y (k + 1); rw [bef_step]; omega
    · obtain rfl : j = k + 1 := by omega
      exact Int.le_refl _
theorem bef_12 (y:Int):bef y 12=yl y:=by
 unfold yl
 cases h:leapB y <;> simp [bef,days,h]
theorem bef_0 (y:Int):bef y 0=0:=rfl
theorem yl_bd (y:Int):365≤yl y∧yl y≤366:=by unfold yl;split <;> omega
theorem ny_succ {y:Int} (h:1900≤y):ny (y+1)=ny y+yl y:=by
 have e:leapB y=true ↔ _:=leap_iff (by omega)
 unfold ny ahead yl
 by_cases c:leapB y=true
 ·rw [if_pos c]
  have d:=e.1 c
  omega
 ·rw [if_neg c]
  have d:¬ _:=fun z=>c (e.2 z)
  omega
theorem ny_mono {a b:Int} (h:1900≤a) (k:a≤b):ny a≤ny b:=by
 unfold ny ahead;omega
theorem ny_0:ny 1900=0:=by decide
theorem ny_end:ny 2200=109573:=by decide
structure IsDate (n y m d:Int):Prop where
 y0:1900≤y
 y1:y≤2199
 m0:1≤m
 m1:m≤12
 d0:1≤d
 d1:d≤days y m
 eq:n=ny y+bef y (m - 1).toNat+d - 1
theorem bef_m {y m:Int} (h:1≤m):bef y m.toNat=bef y (m - 1).toNat+days y m:=by
 obtain ⟨k,rfl⟩:∃ k:Nat,m=(k:Int)+1:=⟨(m - 1).toNat,by omega⟩
 rw [show ((k:Int)+1).toNat=k+1 by omega,show ((k:Int)+1 - 1).toNat=k by omega]
 rfl
theorem IsDate.in_year {n y m d:Int} (h:IsDate n y m d):ny y≤n∧n<ny (y+1):=by
 have a:=bef_m (y:=y) h.m0
 have b:=bef_mono y (j:=0) (k:=(m - 1).toNat) (by omega)
 have c:=bef_mono y (j:=m.toNat) (k:=12) (by have:=h.m1;omega)
 rw [bef_12] at c
 rw [bef_0] at b
 have e:=ny_succ h.y0
 have:=h.d0
 have:=h.d1
 have:=h.eq
 omega
theorem IsDate.bd {n y m d:Int} (h:IsDate n y m d):0≤n∧n≤109572:=by
 have a:=h.in_year
 have b:=ny_mono (a:=1900) (b:=y) (by omega) h.y0
 have c:=ny_mono (a:=y+1) (b:=2200) (by have:=h.y0;omega) (by have:=h.y1;omega)
 rw [ny_0] at b
 rw [ny_end] at c
 omega
theorem IsDate.uniqN {n n' y m d:Int} (h:IsDate n y m d) (h':IsDate n' y m d):n=n':=by
 rw [h.eq,h'.eq]
def dateB (y m d:Int):Bool:=decide (1900≤y) && decide (y≤2199) && decide (1≤d) && decide (d≤days y m)
def dayN (y m d:Int):Int:=if dateB y m d then ny y+bef y (m - 1).toNat+d - 1 else 0
theorem dateB_iff (y m d:Int):dateB y m d=true ↔ (1900≤y∧y≤2199∧1≤d∧d≤days y m):=by
 unfold dateB;simp only [Bool.and_eq_true,decide_eq_true_eq];omega
theorem isDate_of {y m d:Int} (h:dateB y m d=true):IsDate (dayN y m d) y m d:=by
 have k:=(dateB_iff y m d).1 h
 have i:=days_in (y:=y) (m:=m) (by omega)
 unfold dayN
 rw [if_pos h]
 exact ⟨k.1,k.2.1,i.1,i.2,k.2.2.1,k.2.2.2,rfl⟩
theorem IsDate.dateB {n y m d:Int} (h:IsDate n y m d):dateB y m d=true :=
 (dateB_iff y m d).2 ⟨h.y0,h.y1,h.d0,h.d1⟩
theorem IsDate.dayN {n y m d:Int} (h:IsDate n y m d):dayN y m d=n:=(isDate_of h.dateB).uniqN h
def I64 (x:Int):Prop:=-9223372036854775808≤x∧x<9223372036854775808
theorem leap_spell {y:Int} {a b c:Bool} (h4:(y.tmod 4==0)=a) (h100:(y.tmod 100==0)=b) (h400:(y.tmod 400==0)=c):leapB y=((a && !b) || c):=by
 unfold leapB;rw [bne,h4,h100,h400]
theorem month_cases (m:Int):(m=1∨m=2∨m=3∨m=4∨m=5∨m=6∨m=7∨m=8∨m=9∨m=10∨m=11∨m=12)∨(m<1∨12<m):=by omega
theorem beqf {a b:Int} (h:a≠b):(a==b)=false:=beq_eq_false_iff_ne.2 h
theorem retIB {a b:Int} {p q:Bool} (h:a=b) (k:p=q):Ending.returned (.tuple #[.int .i64 a,.bool p])=.returned (.tuple #[.int .i64 b,.bool q]):=by rw [h,k]
theorem bef_bd (y:Int) (k:Nat) (h:k≤12):0≤bef y k∧bef y k≤366:=by
 have a:=bef_mono y (j:=0) (k:=k) (by omega)
 have b:=bef_mono y h
 rw [bef_12] at b
 rw [bef_0] at a
 have:=yl_bd y
 omega
theorem ny_bd {y:Int} (h:1900≤y) (h':y≤2200):0≤ny y∧ny y≤109573:=by
 have a:=ny_mono (a:=1900) (b:=y) (by omega) h
 have b:=ny_mono (a:=y) (b:=2200) h h'
 rw [ny_0] at a
 rw [ny_end] at b
 omega
theorem dateB_no {y m d:Int} (h:dateB y m d=false):y<1900∨y > 2199∨d<1∨d > days y m:=by
 have k:=dateB_iff y m d
 rw [h] at k
 simp at k
 omega


set_option maxHeartbeats 400000 in
theorem rleap_any (y:Int) (w:World) (hy:I64 y):Calls Tryd.prog 31 #[.int .i64 y] w fun e w'=>e=.returned (.bool (leapB y))∧w=w':=by
 cases h4:(y.tmod 4==0) <;> cases h100:(y.tmod 100==0) <;> cases h400:(y.tmod 400==0) <;> rw [leap_spell h4 h100 h400]
 all_goals
  have h100':=congrArg not h100
  rw [← bne] at h100'
  go_enter Tryd.func31,Tryd.ntmps31
  go_wp2
  go_ret
  exact ⟨rfl,rfl⟩
set_option maxHeartbeats 1000000 in
theorem rdays_any (y m:Int) (w:World) (hy:I64 y):Calls Tryd.prog 32 #[.int .i64 y,.int .i64 m] w fun e w'=>e=.returned (.int .i64 (days y m))∧w=w':=by
 rcases month_cases m with (h | h | h | h | h | h | h | h | h | h | h | h) | h
 ·subst h
  go_enter Tryd.func32,Tryd.ntmps32
  go_wp2
  go_ret
  exact ⟨rfl,rfl⟩
 ·subst h
  cases hl:leapB y
  all_goals
   rw [show days y 2=if leapB y then 29 else 28 from rfl,hl]
   go_enter Tryd.func32,Tryd.ntmps32
   go_wp2_with (go_at_call 31;refine (rleap_any _ _ hy).mono ?_;rintro e w' ⟨rfl,rfl⟩;rw [hl])
   go_ret
   exact ⟨rfl,rfl⟩
 iterate 10
  ·subst h
   go_enter Tryd.func32,Tryd.ntmps32
   go_wp2
   go_ret
   exact ⟨rfl,rfl⟩
 ·have z:days y m=0:=by unfold days;rw [if_neg (by omega),if_neg (by omega),if_neg (by omega)]
  rw [z]
  have h1:(m==1)=false:=beqf (by omega)
  have h2:(m==2)=false:=beqf (by omega)
  have h3:(m==3)=false:=beqf (by omega)
  have h4:(m==4)=false:=beqf (by omega)
  have h5:(m==5)=false:=beqf (by omega)
  have h6:(m==6)=false:=beqf (by omega)
  have h7:(m==7)=false:=beqf (by omega)
  have h8:(m==8)=false:=beqf (by omega)
  have h9:(m==9)=false:=beqf (by omega)
  have h10:(m==10)=false:=beqf (by omega)
  have h11:(m==11)=false:=beqf (by omega)
  have h12:(m==12)=false:=beqf (by omega)
  clear h
  go_enter Tryd.func32,Tryd.ntmps32
  go_wp2
  go_ret
  exact ⟨rfl,rfl⟩
theorem yl_yes {y:Int} (h:leapB y=true):yl y=366:=by unfold yl;rw [h];rfl
theorem yl_no {y:Int} (h:leapB y=false):yl y=365:=by unfold yl;rw [h];rfl
set_option maxHeartbeats 1000000 in
theorem rday_yes (y m d:Int) (w:World) (h:dateB y m d=true) :
  Calls Tryd.prog 70 #[.int .i64 y,.int .i64 m,.int .i64 d] w fun e w'=>e=.returned (.tuple #[.int .i64 (dayN y m d),.bool true])∧w=w':=by
 obtain ⟨y0,y1,m0,m1,d0,d1,eq⟩:=isDate_of h
 have hy:I64 y:=⟨by omega,by omega⟩
 have EQ:Hid _:=eq
 have nb:=ny_bd y0 (by omega)
 have dl:=days_le y m
 have i1:¬ y<1900:=by omega
 have i2:¬ y > 2199:=by omega
 have j1:¬ m<1:=by omega
 have j2:¬ m > 12:=by omega
 have i3:¬ d<1:=by omega
 have i4:¬ d > days y m:=by omega
 clear eq h
 go_enter Tryd.func70,Tryd.ntmps70
 go_wp2_with (go_at_call 32;refine (rdays_any _ _ _ hy).mono ?_;rintro e w' ⟨rfl,rfl⟩)
 go_loopg [8,9] ((y - 1900).toNat) (fun g n k wr=>∃ z:Int,1900≤z∧z≤y∧g=(y - z).toNat∧n=.int .i64 (ny z)∧k=.int .i64 z∧wr=w)
 case atStart=>exact ⟨1900,by omega,by omega,rfl,by rw [ny_0],rfl,rfl⟩
 case round =>
  obtain ⟨z,z0,z1,rfl,rfl,rfl,rfl⟩:=hrel
  have zb:=ny_bd (y:=z) z0 (by omega)
  have hz:I64 z:=⟨by omega,by omega⟩
  by_cases c:z<y
  ·have st:=ny_succ z0
   cases l:leapB z
   ·rw [yl_no l] at st
    go_wp2_with (go_at_call 31;refine (rleap_any _ _ hz).mono ?_;rintro e w' ⟨rfl,rfl⟩;rw [l])
    go_roundg ((y - (z+1)).toNat)
    case measure=>omega
    case rel=>exact ⟨z+1,by omega,by omega,rfl,by congr 1;omega,by first | rfl | (congr 1;go_arith),rfl⟩
   ·rw [yl_yes l] at st
    go_wp2_with (go_at_call 31;refine (rleap_any _ _ hz).mono ?_;rintro e w' ⟨rfl,rfl⟩;rw [l])
    go_roundg ((y - (z+1)).toNat)
    case measure=>omega
    case rel=>exact ⟨z+1,by omega,by omega,rfl,by congr 1;omega,by first | rfl | (congr 1;go_arith),rfl⟩
  ·obtain rfl:z=y:=by omega
   go_wp2_with fail
   go_loopg [8,10] 12 (fun g n k wz=>∃ j:Nat,(j:Int)+1≤m∧g=12 - j∧n=.int .i64 (ny z+bef z j)∧k=.int .i64 ((j:Int)+1)∧wz=wr)
   case atStart=>exact ⟨0,by omega,rfl,by rw [bef_0];simp,rfl,rfl⟩
   case round =>
    obtain ⟨j,hj,rfl,rfl,rfl,rfl⟩:=hrel
    have bb:=bef_bd z j (by omega)
    by_cases c:(j:Int)+1<m
    ·have b2:=bef_bd z (j+1) (by omega)
     have st:=bef_step z j
     go_wp2_with (go_at_call 32;refine (rdays_any _ _ _ hy).mono ?_;rintro e w' ⟨rfl,rfl⟩)
     go_roundg (12 - (j+1))
     case measure=>omega
     case rel =>
      refine ⟨j+1,by omega,rfl,?_,?_,rfl⟩
      ·rw [st];congr 1;first | done | go_arith
      ·congr 1;first | done | go_arith
    ·have e:(m - 1).toNat=j:=by omega
     have E:Hid _:=e
     clear e
     go_wp2
     go_ret2
     refine ⟨retIB ?_ rfl,rfl⟩
     rw [EQ.out,E.out]
set_option maxHeartbeats 1000000 in
theorem rday_no (y m d:Int) (w:World) (hy:I64 y) (h:dateB y m d=false) :
  Calls Tryd.prog 70 #[.int .i64 y,.int .i64 m,.int .i64 d] w fun e w'=>e=.returned (.tuple #[.int .i64 (dayN y m d),.bool false])∧w=w':=by
 have z:dayN y m d=0:=by unfold dayN;rw [h];rfl
 rw [z]
 clear z
 have k:=dateB_no h
 clear h
 by_cases i1:y<1900
 ·clear k
  go_enter Tryd.func70,Tryd.ntmps70
  go_wp2
  go_ret2
  exact ⟨rfl,rfl⟩
 ·by_cases i2:y > 2199
  ·clear k
   go_enter Tryd.func70,Tryd.ntmps70
   go_wp2
   go_ret2
   exact ⟨rfl,rfl⟩
  ·by_cases j1:m<1
   ·clear k
    go_enter Tryd.func70,Tryd.ntmps70
    go_wp2
    go_ret2
    exact ⟨rfl,rfl⟩
   ·by_cases j2:m > 12
    ·clear k
     go_enter Tryd.func70,Tryd.ntmps70
     go_wp2
     go_ret2
     exact ⟨rfl,rfl⟩
    ·by_cases i3:d<1
     ·clear k
      go_enter Tryd.func70,Tryd.ntmps70
      go_wp2
      go_ret2
      exact ⟨rfl,rfl⟩
     ·have i4:d > days y m:=by omega
      clear k
      go_enter Tryd.func70,Tryd.ntmps70
      go_wp2_with (go_at_call 32;refine (rdays_any _ _ _ hy).mono ?_;rintro e w' ⟨rfl,rfl⟩)
      go_ret2
      exact ⟨rfl,rfl⟩
theorem rday_any (y m d:Int) (w:World) (hy:I64 y) :
  Calls Tryd.prog 70 #[.int .i64 y,.int .i64 m,.int .i64 d] w fun e w'=>e=.returned (.tuple #[.int .i64 (dayN y m d),.bool (dateB y m d)])∧w=w':=by
 cases h:dateB y m d
 ·exact rday_no y m d w hy h
 ·exact rday_yes y m d w h
def upd (f:Nat→Int) (j:Nat) (v:Int):Nat→Int:=fun i=>if i=j then v else f i
structure R10 (w:World) (b:Nat) (f:Nat→Int):Prop where
 c:∀ i,i<10→w.cell? ⟨b,i,none⟩=some (.int .u8 (f i))
 fz:∀ o,o<10→w.frozen? ⟨b,o,none⟩=false
theorem R10.set {w:World} {b:Nat} {f:Nat→Int} (h:R10 w b f) (j:Nat) (hj:j<10) (v:Int):R10 (w.setCell ⟨b,j,none⟩ (.int .u8 v)) b (upd f j v):=by
 refine ⟨fun i hi=>?_,fun o ho=>by simpa using h.fz o ho⟩
 unfold upd
 by_cases e:i=j
 ·subst e
  rw [if_pos rfl]
  exact World.cell?_setCell_same _ _ _ (h.c i hi)
 ·have ne:(⟨b,i,none⟩:Addr)≠⟨b,j,none⟩:=fun k=>e (by injection k)
  rw [if_neg e]
  first | exact (World.cell?_setCell_other _ _ _ _ ne).trans (h.c i hi) | exact (World.cell?_setCell_other _ _ _ _ ne.symm).trans (h.c i hi)
def dig (c:UInt8):Int:=(c.toNat:Int) - 48
def isDig (c:UInt8):Bool:=decide (48≤(c.toNat:Int)) && decide ((c.toNat:Int)≤57)
theorem isDig_of {c:UInt8} (h:isDig c=true):48≤(c.toNat:Int)∧(c.toNat:Int)≤57:=by unfold isDig at h;simpa using h
def dg2 (a b:UInt8):Int:=(dig a)*10+dig b
def dg4 (a b c d:UInt8):Int:=(((dig a)*10+dig b)*10+dig c)*10+dig d
def fitB (c0 c1 c2 c3 c4 c5 c6 c7 c8 c9:UInt8):Bool:=isDig c0 && isDig c1 && isDig c2 && isDig c3 && decide ((c4.toNat:Int)=45) && isDig c5 && isDig c6 && decide ((c7.toNat:Int)=45) && isDig c8 && isDig c9
theorem isDig_no {c:UInt8} (h:isDig c=false):(c.toNat:Int)<48∨(48≤(c.toNat:Int)∧57<(c.toNat:Int)):=by
 unfold isDig at h
 simp only [Bool.and_eq_false_iff,decide_eq_false_iff_not] at h
 omega
theorem nextB {w u v:World} (h:Below w.heap.size w u) (hb:Below u.heap.size u v):Below w.heap.size w v:=h.trans (hb.mono h.size)
theorem below_drewN (w:World) (x:Nat):Below w.heap.size w (w.drewN x):=by
 induction x with
 | zero=>exact Below.refl _ _
 | succ x ih=>exact ih.drew
theorem fit_digs {c0 c1 c2 c3 c4 c5 c6 c7 c8 c9:UInt8} (h:fitB c0 c1 c2 c3 c4 c5 c6 c7 c8 c9=true):isDig c0=true∧isDig c1=true∧isDig c2=true∧isDig c3=true∧isDig c5=true∧isDig c6=true∧isDig c8=true∧isDig c9=true∧(c4.toNat:Int)=45∧(c7.toNat:Int)=45:=by
 unfold fitB at h
 simp only [Bool.and_eq_true,decide_eq_true_eq] at h
 obtain ⟨⟨⟨⟨⟨⟨⟨⟨⟨h0,h1⟩,h2⟩,h3⟩,h4⟩,h5⟩,h6⟩,h7⟩,h8⟩,h9⟩:=h
 exact ⟨h0,h1,h2,h3,h5,h6,h8,h9,h4,h7⟩
theorem dg4_bd {a b c d:UInt8}:I64 (dg4 a b c d):=by
 have:=a.toNat_lt;have:=b.toNat_lt;have:=c.toNat_lt;have:=d.toNat_lt
 unfold I64 dg4 dig;omega

structure R3 (w0 w:World) (b:Nat) (x y z:Int):Prop where
 c0:w.cell? ⟨b,0,none⟩=some (.int .i64 x)
 c1:w.cell? ⟨b,1,none⟩=some (.int .i64 y)
 c2:w.cell? ⟨b,2,none⟩=some (.int .i64 z)
 fz:∀ o,w.frozen? ⟨b,o,none⟩=false
 bl:Below w0.heap.size w0 w
 ge:w0.heap.size≤b
theorem R3.drewN {w0 w:World} {b:Nat} {x y z:Int} (h:R3 w0 w b x y z) (n:Nat):R3 w0 (w.drewN n) b x y z:=by
 have q:=below_drewN w n
 have lt:=World.block_lt_of_cell? _ _ h.c0
 exact ⟨by rw [q.cell (p:=⟨b,0,none⟩) lt];exact h.c0,by rw [q.cell (p:=⟨b,1,none⟩) lt];exact h.c1,by rw [q.cell (p:=⟨b,2,none⟩) lt];exact h.c2,fun o=>by rw [q.frozen (p:=⟨b,o,none⟩) lt];exact h.fz o,nextB h.bl q,h.ge⟩
theorem R3.set0 {w0 w:World} {b:Nat} {x y z:Int} (h:R3 w0 w b x y z) (v:Int):R3 w0 (w.setCell ⟨b,0,none⟩ (.int .i64 v)) b v y z :=
 ⟨World.cell?_setCell_same _ _ _ h.c0,(World.cell?_setCell_other _ _ _ _ (by simp)).trans h.c1,(World.cell?_setCell_other _ _ _ _ (by simp)).trans h.c2,fun o=>by simpa using h.fz o,h.bl.setCell (p:=⟨b,0,none⟩) h.ge _,h.ge⟩
theorem R3.set1 {w0 w:World} {b:Nat} {x y z:Int} (h:R3 w0 w b x y z) (v:Int):R3 w0 (w.setCell ⟨b,1,none⟩ (.int .i64 v)) b x v z :=
 ⟨(World.cell?_setCell_other _ _ _ _ (by simp)).trans h.c0,World.cell?_setCell_same _ _ _ h.c1,(World.cell?_setCell_other _ _ _ _ (by simp)).trans h.c2,fun o=>by simpa using h.fz o,h.bl.setCell (p:=⟨b,1,none⟩) h.ge _,h.ge⟩
theorem R3.set2 {w0 w:World} {b:Nat} {x y z:Int} (h:R3 w0 w b x y z) (v:Int):R3 w0 (w.setCell ⟨b,2,none⟩ (.int .i64 v)) b x y v :=
 ⟨(World.cell?_setCell_other _ _ _ _ (by simp)).trans h.c0,(World.cell?_setCell_other _ _ _ _ (by simp)).trans h.c1,World.cell?_setCell_same _ _ _ h.c2,fun o=>by simpa using h.fz o,h.bl.setCell (p:=⟨b,2,none⟩) h.ge _,h.ge⟩
theorem R3.drew {w0 w:World} {b:Nat} {x y z:Int} (h:R3 w0 w b x y z):R3 w0 w.drew b x y z:=h.drewN 1
abbrev S3 (w0:World) (b:Nat) (x y z:Int) (w:World):Prop:=w.cell? ⟨b,0,none⟩=some (.int .i64 x)∧w.cell? ⟨b,1,none⟩=some (.int .i64 y)∧w.cell? ⟨b,2,none⟩=some (.int .i64 z)∧Below w0.heap.size w0 w
theorem R3.all {w0 w:World} {b:Nat} {x y z:Int} (h:R3 w0 w b x y z):S3 w0 b x y z w:=⟨h.c0,h.c1,h.c2,h.bl⟩
theorem R3.new (w:World) (t:TypeId):R3 w (w.alloc (.cells #[.int .i64 0,.int .i64 0,.int .i64 0] t)) w.heap.size 0 0 0 :=
 ⟨by simp,by simp,by simp,fun o=>by simp,(Below.refl _ _).alloc (Nat.le_refl _) _,Nat.le_refl _⟩
def fa (c0 c1 c2 c3 c4 c5 c6 c7 c8 c9:UInt8):Nat→Int
 | 0=>0
 | 1=>dig c0
 | 2=>10*(dig c0)+dig c1
 | 3=>10*(10*(dig c0)+dig c1)+dig c2
 | 4=>10*(10*(10*(dig c0)+dig c1)+dig c2)+dig c3
 | 5=>10*(10*(10*(dig c0)+dig c1)+dig c2)+dig c3
 | 6=>10*(10*(10*(dig c0)+dig c1)+dig c2)+dig c3
 | 7=>10*(10*(10*(dig c0)+dig c1)+dig c2)+dig c3
 | 8=>10*(10*(10*(dig c0)+dig c1)+dig c2)+dig c3
 | 9=>10*(10*(10*(dig c0)+dig c1)+dig c2)+dig c3
 | _=>10*(10*(10*(dig c0)+dig c1)+dig c2)+dig c3
def fb (c0 c1 c2 c3 c4 c5 c6 c7 c8 c9:UInt8):Nat→Int
 | 0=>0
 | 1=>0
 | 2=>0
 | 3=>0
 | 4=>0
 | 5=>0
 | 6=>dig c5
 | 7=>10*(dig c5)+dig c6
 | 8=>10*(dig c5)+dig c6
 | 9=>10*(dig c5)+dig c6
 | _=>10*(dig c5)+dig c6
def fc (c0 c1 c2 c3 c4 c5 c6 c7 c8 c9:UInt8):Nat→Int
 | 0=>0
 | 1=>0
 | 2=>0
 | 3=>0
 | 4=>0
 | 5=>0
 | 6=>0
 | 7=>0
 | 8=>0
 | 9=>dig c8
 | _=>10*(dig c8)+dig c9
theorem fa_end (c0 c1 c2 c3 c4 c5 c6 c7 c8 c9:UInt8):fa c0 c1 c2 c3 c4 c5 c6 c7 c8 c9 10=dg4 c0 c1 c2 c3:=by show 10*(10*(10*(dig c0)+dig c1)+dig c2)+dig c3=_;unfold dg4;omega
theorem fb_end (c0 c1 c2 c3 c4 c5 c6 c7 c8 c9:UInt8):fb c0 c1 c2 c3 c4 c5 c6 c7 c8 c9 10=dg2 c5 c6:=by show 10*(dig c5)+dig c6=_;unfold dg2;omega
theorem fc_end (c0 c1 c2 c3 c4 c5 c6 c7 c8 c9:UInt8):fc c0 c1 c2 c3 c4 c5 c6 c7 c8 c9 10=dg2 c8 c9:=by show 10*(dig c8)+dig c9=_;unfold dg2;omega
theorem dig_bd (c:UInt8):-48≤dig c∧dig c≤207:=by have:=c.toNat_lt;unfold dig;omega
def rdN (c0 c1 c2 c3 c4 c5 c6 c7 c8 c9:UInt8):Int:=if fitB c0 c1 c2 c3 c4 c5 c6 c7 c8 c9 then dayN (dg4 c0 c1 c2 c3) (dg2 c5 c6) (dg2 c8 c9) else 0
def rdB (c0 c1 c2 c3 c4 c5 c6 c7 c8 c9:UInt8):Bool:=if fitB c0 c1 c2 c3 c4 c5 c6 c7 c8 c9 then dateB (dg4 c0 c1 c2 c3) (dg2 c5 c6) (dg2 c8 c9) else false
theorem rd_no {c0 c1 c2 c3 c4 c5 c6 c7 c8 c9:UInt8} (h:fitB c0 c1 c2 c3 c4 c5 c6 c7 c8 c9=false):rdN c0 c1 c2 c3 c4 c5 c6 c7 c8 c9=0∧rdB c0 c1 c2 c3 c4 c5 c6 c7 c8 c9=false:=by unfold rdN rdB;rw [h];exact ⟨rfl,rfl⟩
theorem rd_yes {c0 c1 c2 c3 c4 c5 c6 c7 c8 c9:UInt8} (h:fitB c0 c1 c2 c3 c4 c5 c6 c7 c8 c9=true):rdN c0 c1 c2 c3 c4 c5 c6 c7 c8 c9=dayN (dg4 c0 c1 c2 c3) (dg2 c5 c6) (dg2 c8 c9)∧rdB c0 c1 c2 c3 c4 c5 c6 c7 c8 c9=dateB (dg4 c0 c1 c2 c3) (dg2 c5 c6) (dg2 c8 c9):=by unfold rdN rdB;rw [h];exact ⟨rfl,rfl⟩
set_option maxHeartbeats 1000000 in
theorem rread_stroke (c0 c1 c2 c3 c4 c5 c6 c7 c8 c9:UInt8) (w:World) (k:(c4.toNat:Int)≠45∨(c7.toNat:Int)≠45) :
  Calls Tryd.prog 54 #[.string ⟨#[c0,c1,c2,c3,c4,c5,c6,c7,c8,c9]⟩] w fun e w'=>e=.returned (.tuple #[.int .i64 (rdN c0 c1 c2 c3 c4 c5 c6 c7 c8 c9),.bool (rdB c0 c1 c2 c3 c4 c5 c6 c7 c8 c9)])∧Below w.heap.size w w':=by
 have f:fitB c0 c1 c2 c3 c4 c5 c6 c7 c8 c9=false:=by
  cases q:fitB c0 c1 c2 c3 c4 c5 c6 c7 c8 c9
  ·rfl
  ·obtain ⟨_,_,_,_,_,_,_,_,h4,h7⟩:=fit_digs q
   omega
 rw [(rd_no f).1,(rd_no f).2]
 clear f
 have x4:((((⟨#[c0,c1,c2,c3,c4,c5,c6,c7,c8,c9]⟩:ByteArray)[4]'(by show 4<10;omega)).toNat:Nat):Int)=(c4.toNat:Int):=rfl
 have x7:((((⟨#[c0,c1,c2,c3,c4,c5,c6,c7,c8,c9]⟩:ByteArray)[7]'(by show 7<10;omega)).toNat:Nat):Int)=(c7.toNat:Int):=rfl
 generalize (c4.toNat:Int)=C4 at *
 generalize (c7.toNat:Int)=C7 at *
 by_cases k4:C4=45
 ·subst k4
  have k7:(C7 != 45)=true:=by rw [bne_iff_ne];omega
  clear k
  go_enter Tryd.func54,Tryd.ntmps54
  go_wp2
  go_ret2
  exact ⟨rfl,Below.refl _ _⟩
 ·have k4':(C4 != 45)=true:=by rw [bne_iff_ne];exact k4
  clear k k4
  go_enter Tryd.func54,Tryd.ntmps54
  go_wp2
  go_ret2
  exact ⟨rfl,Below.refl _ _⟩
set_option maxHeartbeats 8000000 in
theorem rread_10 (c0 c1 c2 c3 c4 c5 c6 c7 c8 c9 : UInt8) (w : World) (k4 : (c4.toNat : Int) = 45) (k7 : (c7.toNat : Int) = 45) :
    Calls Tryd.prog 54 #[.string ⟨#[c0, c1, c2, c3, c4, c5, c6, c7, c8, c9]⟩] w fun e w' => e = .returned (.tuple #[.int .i64 (rdN c0 c1 c2 c3 c4 c5 c6 c7 c8 c9), .bool (rdB c0 c1 c2 c3 c4 c5 c6 c7 c8 c9)]) ∧ Below w.heap.size w w' := by
  have FB : Hid (fitB c0 c1 c2 c3 c4 c5 c6 c7 c8 c9 = (isDig c0 && isDig c1 && isDig c2 && isDig c3 && decide ((c4.toNat : Int) = 45) && isDig c5 && isDig c6 && decide ((c7.toNat : Int) = 45) && isDig c8 && isDig c9)) := (rfl : _ = _)
  have x4 : ((((⟨#[c0, c1, c2, c3, c4, c5, c6, c7, c8, c9]⟩ : ByteArray)[4]'(by show 4 < 10; omega)).toNat : Nat) : Int) = 45 := k4
  have x7 : ((((⟨#[c0, c1, c2, c3, c4, c5, c6, c7, c8, c9]⟩ : ByteArray)[7]'(by show 7 < 10; omega)).toNat : Nat) : Int) = 45 := k7
  have H4 : Hid _ := k4
  have H7 : Hid _ := k7
  clear k4 k7
  have RN : Hid _ := R3.new w 3
  go_enter Tryd.func54, Tryd.ntmps54
  go_wp2_with fail
  go_loopg [5] 10 (fun g iv wr => ∃ j : Nat, j ≤ 10 ∧ g = 10 - j ∧ iv = .int .i64 j ∧ Hid (R3 w wr w.heap.size (fa c0 c1 c2 c3 c4 c5 c6 c7 c8 c9 j) (fb c0 c1 c2 c3 c4 c5 c6 c7 c8 c9 j) (fc c0 c1 c2 c3 c4 c5 c6 c7 c8 c9 j)) ∧ Hid ((0 < j → isDig c0 = true) ∧ (1 < j → isDig c1 = true) ∧ (2 < j → isDig c2 = true) ∧ (3 < j → isDig c3 = true) ∧ (4 < j → decide ((c4.toNat : Int) = 45) = true) ∧ (5 < j → isDig c5 = true) ∧ (6 < j → isDig c6 = true) ∧ (7 < j → decide ((c7.toNat : Int) = 45) = true) ∧ (8 < j → isDig c8 = true) ∧ (9 < j → isDig c9 = true)))
  case atStart => exact ⟨0, by omega, rfl, rfl, RN, fun h => by omega, fun h => by omega, fun h => by omega, fun h => by omega, fun h => by omega, fun h => by omega, fun h => by omega, fun h => by omega, fun h => by omega, fun h => by omega⟩
  case round =>
    obtain ⟨j, hj, rfl, rfl, HR, P⟩ := hrel
    have J : j = 0 ∨ j = 1 ∨ j = 2 ∨ j = 3 ∨ j = 4 ∨ j = 5 ∨ j = 6 ∨ j = 7 ∨ j = 8 ∨ j = 9 ∨ j = 10 := by omega
    clear RN
    rcases J with rfl | rfl | rfl | rfl | rfl | rfl | rfl | rfl | rfl | rfl | rfl
    · have xi : ((((⟨#[c0, c1, c2, c3, c4, c5, c6, c7, c8, c9]⟩ : ByteArray)[0]'(by show 0 < 10; omega)).toNat : Nat) : Int) = (c0.toNat : Int) := rfl
      cases k : isDig c0
      · have E : Hid (fitB c0 c1 c2 c3 c4 c5 c6 c7 c8 c9 = false) := (by rw [FB.out, k]; simp : fitB c0 c1 c2 c3 c4 c5 c6 c7 c8 c9 = false)
        have k' := isDig_no k
        have BL : Hid _ := HR.out.bl
        clear k
        generalize (c0.toNat : Int) = C at *
        rcases k' with k' | ⟨k', k''⟩
        · go_wp2
          go_ret2
          exact ⟨by rw [(rd_no E.out).1, (rd_no E.out).2]; rfl, BL.out⟩
        · go_wp2
          go_ret2
          exact ⟨by rw [(rd_no E.out).1, (rd_no E.out).2]; rfl, BL.out⟩
      · have k' := isDig_of k
        have NX : Hid ((0 < 1 → isDig c0 = true) ∧ (1 < 1 → isDig c1 = true) ∧ (2 < 1 → isDig c2 = true) ∧ (3 < 1 → isDig c3 = true) ∧ (4 < 1 → decide ((c4.toNat : Int) = 45) = true) ∧ (5 < 1 → isDig c5 = true) ∧ (6 < 1 → isDig c6 = true) ∧ (7 < 1 → decide ((c7.toNat : Int) = 45) = true) ∧ (8 < 1 → isDig c8 = true) ∧ (9 < 1 → isDig c9 = true)) := (by
          obtain ⟨p0, p1, p2, p3, p4, p5, p6, p7, p8, p9⟩ := P.out
          exact ⟨fun _ => k, fun h => by omega, fun h => by omega, fun h => by omega, fun h => by omega, fun h => by omega, fun h => by omega, fun h => by omega, fun h => by omega, fun h => by omega⟩)
        have R : R3 w wr w.heap.size (0) (0) (0) := HR.out
        have ND : Hid ((c0.toNat : Int) - 48 = dig c0) := (rfl : (c0.toNat : Int) - 48 = dig c0)
        clear k HR
        obtain ⟨k0, k1⟩ := k'
        have r0 := R.c0
        have rf := R.fz 0
        have HR : Hid _ := R
        clear R
        generalize (c0.toNat : Int) = C at *
        go_upto_region 15 with fail
        go_region
        go_wp2
        go_roundg 9
        case measure => omega
        case rel =>
          have Q := (HR.out.set0 (C - 48)).drew
          rw [ND.out] at Q
          refine ⟨1, by omega, rfl, rfl, ?_, NX⟩
          rw [← ND.out] at Q
          first | exact Q | (rw [ND.out] at Q; exact Q) | (simp only [ND.out]; rw [ND.out] at Q; exact Q)
    · have xi : ((((⟨#[c0, c1, c2, c3, c4, c5, c6, c7, c8, c9]⟩ : ByteArray)[1]'(by show 1 < 10; omega)).toNat : Nat) : Int) = (c1.toNat : Int) := rfl
      cases k : isDig c1
      · have E : Hid (fitB c0 c1 c2 c3 c4 c5 c6 c7 c8 c9 = false) := (by rw [FB.out, k]; simp : fitB c0 c1 c2 c3 c4 c5 c6 c7 c8 c9 = false)
        have k' := isDig_no k
        have BL : Hid _ := HR.out.bl
        clear k
        generalize (c1.toNat : Int) = C at *
        rcases k' with k' | ⟨k', k''⟩
        · go_wp2
          go_ret2
          exact ⟨by rw [(rd_no E.out).1, (rd_no E.out).2]; rfl, BL.out⟩
        · go_wp2
          go_ret2
          exact ⟨by rw [(rd_no E.out).1, (rd_no E.out).2]; rfl, BL.out⟩
      · have k' := isDig_of k
        have NX : Hid ((0 < 2 → isDig c0 = true) ∧ (1 < 2 → isDig c1 = true) ∧ (2 < 2 → isDig c2 = true) ∧ (3 < 2 → isDig c3 = true) ∧ (4 < 2 → decide ((c4.toNat : Int) = 45) = true) ∧ (5 < 2 → isDig c5 = true) ∧ (6 < 2 → isDig c6 = true) ∧ (7 < 2 → decide ((c7.toNat : Int) = 45) = true) ∧ (8 < 2 → isDig c8 = true) ∧ (9 < 2 → isDig c9 = true)) := (by
          obtain ⟨p0, p1, p2, p3, p4, p5, p6, p7, p8, p9⟩ := P.out
          exact ⟨fun _ => p0 (by omega), fun _ => k, fun h => by omega, fun h => by omega, fun h => by omega, fun h => by omega, fun h => by omega, fun h => by omega, fun h => by omega, fun h => by omega⟩)
        have R : R3 w wr w.heap.size (dig c0) (0) (0) := HR.out
        have ND : Hid ((c1.toNat : Int) - 48 = dig c1) := (rfl : (c1.toNat : Int) - 48 = dig c1)
        clear k HR
        obtain ⟨k0, k1⟩ := k'
        have vb : -100000000 ≤ dig c0 ∧ dig c0 ≤ 100000000 := by have := dig_bd c0; omega
        obtain ⟨vb0, vb1⟩ := vb
        generalize hX : dig c0 = X at *
        have HX : Hid _ := hX
        clear hX
        have r0 := R.c0
        have rf := R.fz 0
        have HR : Hid _ := R
        clear R
        generalize (c1.toNat : Int) = C at *
        go_upto_region 15 with fail
        go_region
        go_wp2
        go_roundg 8
        case measure => omega
        case rel =>
          have Q := (HR.out.set0 (10 * X + (C - 48))).drew
          refine ⟨2, by omega, rfl, rfl, ?_, NX⟩
          rw [ND.out] at Q ⊢
          rw [← HX.out] at Q ⊢
          exact Q
    · have xi : ((((⟨#[c0, c1, c2, c3, c4, c5, c6, c7, c8, c9]⟩ : ByteArray)[2]'(by show 2 < 10; omega)).toNat : Nat) : Int) = (c2.toNat : Int) := rfl
      cases k : isDig c2
      · have E : Hid (fitB c0 c1 c2 c3 c4 c5 c6 c7 c8 c9 = false) := (by rw [FB.out, k]; simp : fitB c0 c1 c2 c3 c4 c5 c6 c7 c8 c9 = false)
        have k' := isDig_no k
        have BL : Hid _ := HR.out.bl
        clear k
        generalize (c2.toNat : Int) = C at *
        rcases k' with k' | ⟨k', k''⟩
        · go_wp2
          go_ret2
          exact ⟨by rw [(rd_no E.out).1, (rd_no E.out).2]; rfl, BL.out⟩
        · go_wp2
          go_ret2
          exact ⟨by rw [(rd_no E.out).1, (rd_no E.out).2]; rfl, BL.out⟩
      · have k' := isDig_of k
        have NX : Hid ((0 < 3 → isDig c0 = true) ∧ (1 < 3 → isDig c1 = true) ∧ (2 < 3 → isDig c2 = true) ∧ (3 < 3 → isDig c3 = true) ∧ (4 < 3 → decide ((c4.toNat : Int) = 45) = true) ∧ (5 < 3 → isDig c5 = true) ∧ (6 < 3 → isDig c6 = true) ∧ (7 < 3 → decide ((c7.toNat : Int) = 45) = true) ∧ (8 < 3 → isDig c8 = true) ∧ (9 < 3 → isDig c9 = true)) := (by
          obtain ⟨p0, p1, p2, p3, p4, p5, p6, p7, p8, p9⟩ := P.out
          exact ⟨fun _ => p0 (by omega), fun _ => p1 (by omega), fun _ => k, fun h => by omega, fun h => by omega, fun h => by omega, fun h => by omega, fun h => by omega, fun h => by omega, fun h => by omega⟩)
        have R : R3 w wr w.heap.size (10 * (dig c0) + dig c1) (0) (0) := HR.out
        have ND : Hid ((c2.toNat : Int) - 48 = dig c2) := (rfl : (c2.toNat : Int) - 48 = dig c2)
        clear k HR
        obtain ⟨k0, k1⟩ := k'
        have vb : -100000000 ≤ 10 * (dig c0) + dig c1 ∧ 10 * (dig c0) + dig c1 ≤ 100000000 := by have := dig_bd c0; have := dig_bd c1; omega
        obtain ⟨vb0, vb1⟩ := vb
        generalize hX : 10 * (dig c0) + dig c1 = X at *
        have HX : Hid _ := hX
        clear hX
        have r0 := R.c0
        have rf := R.fz 0
        have HR : Hid _ := R
        clear R
        generalize (c2.toNat : Int) = C at *
        go_upto_region 15 with fail
        go_region
        go_wp2
        go_roundg 7
        case measure => omega
        case rel =>
          have Q := (HR.out.set0 (10 * X + (C - 48))).drew
          refine ⟨3, by omega, rfl, rfl, ?_, NX⟩
          rw [ND.out] at Q ⊢
          rw [← HX.out] at Q ⊢
          exact Q
    · have xi : ((((⟨#[c0, c1, c2, c3, c4, c5, c6, c7, c8, c9]⟩ : ByteArray)[3]'(by show 3 < 10; omega)).toNat : Nat) : Int) = (c3.toNat : Int) := rfl
      cases k : isDig c3
      · have E : Hid (fitB c0 c1 c2 c3 c4 c5 c6 c7 c8 c9 = false) := (by rw [FB.out, k]; simp : fitB c0 c1 c2 c3 c4 c5 c6 c7 c8 c9 = false)
        have k' := isDig_no k
        have BL : Hid _ := HR.out.bl
        clear k
        generalize (c3.toNat : Int) = C at *
        rcases k' with k' | ⟨k', k''⟩
        · go_wp2
          go_ret2
          exact ⟨by rw [(rd_no E.out).1, (rd_no E.out).2]; rfl, BL.out⟩
        · go_wp2
          go_ret2
          exact ⟨by rw [(rd_no E.out).1, (rd_no E.out).2]; rfl, BL.out⟩
      · have k' := isDig_of k
        have NX : Hid ((0 < 4 → isDig c0 = true) ∧ (1 < 4 → isDig c1 = true) ∧ (2 < 4 → isDig c2 = true) ∧ (3 < 4 → isDig c3 = true) ∧ (4 < 4 → decide ((c4.toNat : Int) = 45) = true) ∧ (5 < 4 → isDig c5 = true) ∧ (6 < 4 → isDig c6 = true) ∧ (7 < 4 → decide ((c7.toNat : Int) = 45) = true) ∧ (8 < 4 → isDig c8 = true) ∧ (9 < 4 → isDig c9 = true)) := (by
          obtain ⟨p0, p1, p2, p3, p4, p5, p6, p7, p8, p9⟩ := P.out
          exact ⟨fun _ => p0 (by omega), fun _ => p1 (by omega), fun _ => p2 (by omega), fun _ => k, fun h => by omega, fun h => by omega, fun h => by omega, fun h => by omega, fun h => by omega, fun h => by omega⟩)
        have R : R3 w wr w.heap.size (10 * (10 * (dig c0) + dig c1) + dig c2) (0) (0) := HR.out
        have ND : Hid ((c3.toNat : Int) - 48 = dig c3) := (rfl : (c3.toNat : Int) - 48 = dig c3)
        clear k HR
        obtain ⟨k0, k1⟩ := k'
        have vb : -100000000 ≤ 10 * (10 * (dig c0) + dig c1) + dig c2 ∧ 10 * (10 * (dig c0) + dig c1) + dig c2 ≤ 100000000 := by have := dig_bd c0; have := dig_bd c1; have := dig_bd c2; omega
        obtain ⟨vb0, vb1⟩ := vb
        generalize hX : 10 * (10 * (dig c0) + dig c1) + dig c2 = X at *
        have HX : Hid _ := hX
        clear hX
        have r0 := R.c0
        have rf := R.fz 0
        have HR : Hid _ := R
        clear R
        generalize (c3.toNat : Int) = C at *
        go_upto_region 15 with fail
        go_region
        go_wp2
        go_roundg 6
        case measure => omega
        case rel =>
          have Q := (HR.out.set0 (10 * X + (C - 48))).drew
          refine ⟨4, by omega, rfl, rfl, ?_, NX⟩
          rw [ND.out] at Q ⊢
          rw [← HX.out] at Q ⊢
          exact Q
    · have NX : Hid ((0 < 5 → isDig c0 = true) ∧ (1 < 5 → isDig c1 = true) ∧ (2 < 5 → isDig c2 = true) ∧ (3 < 5 → isDig c3 = true) ∧ (4 < 5 → decide ((c4.toNat : Int) = 45) = true) ∧ (5 < 5 → isDig c5 = true) ∧ (6 < 5 → isDig c6 = true) ∧ (7 < 5 → decide ((c7.toNat : Int) = 45) = true) ∧ (8 < 5 → isDig c8 = true) ∧ (9 < 5 → isDig c9 = true)) := (by
          obtain ⟨p0, p1, p2, p3, p4, p5, p6, p7, p8, p9⟩ := P.out
          exact ⟨fun _ => p0 (by omega), fun _ => p1 (by omega), fun _ => p2 (by omega), fun _ => p3 (by omega), fun _ => decide_eq_true H4.out, fun h => by omega, fun h => by omega, fun h => by omega, fun h => by omega, fun h => by omega⟩)
      go_wp2
      go_roundg 5
      case measure => omega
      case rel => exact ⟨5, by omega, rfl, rfl, HR, NX⟩
    · have xi : ((((⟨#[c0, c1, c2, c3, c4, c5, c6, c7, c8, c9]⟩ : ByteArray)[5]'(by show 5 < 10; omega)).toNat : Nat) : Int) = (c5.toNat : Int) := rfl
      cases k : isDig c5
      · have E : Hid (fitB c0 c1 c2 c3 c4 c5 c6 c7 c8 c9 = false) := (by rw [FB.out, k]; simp : fitB c0 c1 c2 c3 c4 c5 c6 c7 c8 c9 = false)
        have k' := isDig_no k
        have BL : Hid _ := HR.out.bl
        clear k
        generalize (c5.toNat : Int) = C at *
        rcases k' with k' | ⟨k', k''⟩
        · go_wp2
          go_ret2
          exact ⟨by rw [(rd_no E.out).1, (rd_no E.out).2]; rfl, BL.out⟩
        · go_wp2
          go_ret2
          exact ⟨by rw [(rd_no E.out).1, (rd_no E.out).2]; rfl, BL.out⟩
      · have k' := isDig_of k
        have NX : Hid ((0 < 6 → isDig c0 = true) ∧ (1 < 6 → isDig c1 = true) ∧ (2 < 6 → isDig c2 = true) ∧ (3 < 6 → isDig c3 = true) ∧ (4 < 6 → decide ((c4.toNat : Int) = 45) = true) ∧ (5 < 6 → isDig c5 = true) ∧ (6 < 6 → isDig c6 = true) ∧ (7 < 6 → decide ((c7.toNat : Int) = 45) = true) ∧ (8 < 6 → isDig c8 = true) ∧ (9 < 6 → isDig c9 = true)) := (by
          obtain ⟨p0, p1, p2, p3, p4, p5, p6, p7, p8, p9⟩ := P.out
          exact ⟨fun _ => p0 (by omega), fun _ => p1 (by omega), fun _ => p2 (by omega), fun _ => p3 (by omega), fun _ => p4 (by omega), fun _ => k, fun h => by omega, fun h => by omega, fun h => by omega, fun h => by omega⟩)
        have R : R3 w wr w.heap.size (10 * (10 * (10 * (dig c0) + dig c1) + dig c2) + dig c3) (0) (0) := HR.out
        have ND : Hid ((c5.toNat : Int) - 48 = dig c5) := (rfl : (c5.toNat : Int) - 48 = dig c5)
        clear k HR
        obtain ⟨k0, k1⟩ := k'
        have r1 := R.c1
        have rf := R.fz 1
        have HR : Hid _ := R
        clear R
        generalize (c5.toNat : Int) = C at *
        go_upto_region 15 with fail
        go_region
        go_wp2
        go_roundg 4
        case measure => omega
        case rel =>
          have Q := (HR.out.set1 (C - 48)).drew
          rw [ND.out] at Q
          refine ⟨6, by omega, rfl, rfl, ?_, NX⟩
          rw [← ND.out] at Q
          first | exact Q | (rw [ND.out] at Q; exact Q) | (simp only [ND.out]; rw [ND.out] at Q; exact Q)
    · have xi : ((((⟨#[c0, c1, c2, c3, c4, c5, c6, c7, c8, c9]⟩ : ByteArray)[6]'(by show 6 < 10; omega)).toNat : Nat) : Int) = (c6.toNat : Int) := rfl
      cases k : isDig c6
      · have E : Hid (fitB c0 c1 c2 c3 c4 c5 c6 c7 c8 c9 = false) := (by rw [FB.out, k]; simp : fitB c0 c1 c2 c3 c4 c5 c6 c7 c8 c9 = false)
        have k' := isDig_no k
        have BL : Hid _ := HR.out.bl
        clear k
        generalize (c6.toNat : Int) = C at *
        rcases k' with k' | ⟨k', k''⟩
        · go_wp2
          go_ret2
          exact ⟨by rw [(rd_no E.out).1, (rd_no E.out).2]; rfl, BL.out⟩
        · go_wp2
          go_ret2
          exact ⟨by rw [(rd_no E.out).1, (rd_no E.out).2]; rfl, BL.out⟩
      · have k' := isDig_of k
        have NX : Hid ((0 < 7 → isDig c0 = true) ∧ (1 < 7 → isDig c1 = true) ∧ (2 < 7 → isDig c2 = true) ∧ (3 < 7 → isDig c3 = true) ∧ (4 < 7 → decide ((c4.toNat : Int) = 45) = true) ∧ (5 < 7 → isDig c5 = true) ∧ (6 < 7 → isDig c6 = true) ∧ (7 < 7 → decide ((c7.toNat : Int) = 45) = true) ∧ (8 < 7 → isDig c8 = true) ∧ (9 < 7 → isDig c9 = true)) := (by
          obtain ⟨p0, p1, p2, p3, p4, p5, p6, p7, p8, p9⟩ := P.out
          exact ⟨fun _ => p0 (by omega), fun _ => p1 (by omega), fun _ => p2 (by omega), fun _ => p3 (by omega), fun _ => p4 (by omega), fun _ => p5 (by omega), fun _ => k, fun h => by omega, fun h => by omega, fun h => by omega⟩)
        have R : R3 w wr w.heap.size (10 * (10 * (10 * (dig c0) + dig c1) + dig c2) + dig c3) (dig c5) (0) := HR.out
        have ND : Hid ((c6.toNat : Int) - 48 = dig c6) := (rfl : (c6.toNat : Int) - 48 = dig c6)
        clear k HR
        obtain ⟨k0, k1⟩ := k'
        have vb : -100000000 ≤ dig c5 ∧ dig c5 ≤ 100000000 := by have := dig_bd c5; omega
        obtain ⟨vb0, vb1⟩ := vb
        generalize hX : dig c5 = X at *
        have HX : Hid _ := hX
        clear hX
        have r1 := R.c1
        have rf := R.fz 1
        have HR : Hid _ := R
        clear R
        generalize (c6.toNat : Int) = C at *
        go_upto_region 15 with fail
        go_region
        go_wp2
        go_roundg 3
        case measure => omega
        case rel =>
          have Q := (HR.out.set1 (10 * X + (C - 48))).drew
          refine ⟨7, by omega, rfl, rfl, ?_, NX⟩
          rw [ND.out] at Q ⊢
          rw [← HX.out] at Q ⊢
          exact Q
    · have NX : Hid ((0 < 8 → isDig c0 = true) ∧ (1 < 8 → isDig c1 = true) ∧ (2 < 8 → isDig c2 = true) ∧ (3 < 8 → isDig c3 = true) ∧ (4 < 8 → decide ((c4.toNat : Int) = 45) = true) ∧ (5 < 8 → isDig c5 = true) ∧ (6 < 8 → isDig c6 = true) ∧ (7 < 8 → decide ((c7.toNat : Int) = 45) = true) ∧ (8 < 8 → isDig c8 = true) ∧ (9 < 8 → isDig c9 = true)) := (by
          obtain ⟨p0, p1, p2, p3, p4, p5, p6, p7, p8, p9⟩ := P.out
          exact ⟨fun _ => p0 (by omega), fun _ => p1 (by omega), fun _ => p2 (by omega), fun _ => p3 (by omega), fun _ => p4 (by omega), fun _ => p5 (by omega), fun _ => p6 (by omega), fun _ => decide_eq_true H7.out, fun h => by omega, fun h => by omega⟩)
      go_wp2
      go_roundg 2
      case measure => omega
      case rel => exact ⟨8, by omega, rfl, rfl, HR, NX⟩
    · have xi : ((((⟨#[c0, c1, c2, c3, c4, c5, c6, c7, c8, c9]⟩ : ByteArray)[8]'(by show 8 < 10; omega)).toNat : Nat) : Int) = (c8.toNat : Int) := rfl
      cases k : isDig c8
      · have E : Hid (fitB c0 c1 c2 c3 c4 c5 c6 c7 c8 c9 = false) := (by rw [FB.out, k]; simp : fitB c0 c1 c2 c3 c4 c5 c6 c7 c8 c9 = false)
        have k' := isDig_no k
        have BL : Hid _ := HR.out.bl
        clear k
        generalize (c8.toNat : Int) = C at *
        rcases k' with k' | ⟨k', k''⟩
        · go_wp2
          go_ret2
          exact ⟨by rw [(rd_no E.out).1, (rd_no E.out).2]; rfl, BL.out⟩
        · go_wp2
          go_ret2
          exact ⟨by rw [(rd_no E.out).1, (rd_no E.out).2]; rfl, BL.out⟩
      · have k' := isDig_of k
        have NX : Hid ((0 < 9 → isDig c0 = true) ∧ (1 < 9 → isDig c1 = true) ∧ (2 < 9 → isDig c2 = true) ∧ (3 < 9 → isDig c3 = true) ∧ (4 < 9 → decide ((c4.toNat : Int) = 45) = true) ∧ (5 < 9 → isDig c5 = true) ∧ (6 < 9 → isDig c6 = true) ∧ (7 < 9 → decide ((c7.toNat : Int) = 45) = true) ∧ (8 < 9 → isDig c8 = true) ∧ (9 < 9 → isDig c9 = true)) := (by
          obtain ⟨p0, p1, p2, p3, p4, p5, p6, p7, p8, p9⟩ := P.out
          exact ⟨fun _ => p0 (by omega), fun _ => p1 (by omega), fun _ => p2 (by omega), fun _ => p3 (by omega), fun _ => p4 (by omega), fun _ => p5 (by omega), fun _ => p6 (by omega), fun _ => p7 (by omega), fun _ => k, fun h => by omega⟩)
        have R : R3 w wr w.heap.size (10 * (10 * (10 * (dig c0) + dig c1) + dig c2) + dig c3) (10 * (dig c5) + dig c6) (0) := HR.out
        have ND : Hid ((c8.toNat : Int) - 48 = dig c8) := (rfl : (c8.toNat : Int) - 48 = dig c8)
        clear k HR
        obtain ⟨k0, k1⟩ := k'
        have r2 := R.c2
        have rf := R.fz 2
        have HR : Hid _ := R
        clear R
        generalize (c8.toNat : Int) = C at *
        go_upto_region 15 with fail
        go_region
        go_wp2
        go_roundg 1
        case measure => omega
        case rel =>
          have Q := (HR.out.set2 (C - 48)).drew
          rw [ND.out] at Q
          refine ⟨9, by omega, rfl, rfl, ?_, NX⟩
          rw [← ND.out] at Q
          first | exact Q | (rw [ND.out] at Q; exact Q) | (simp only [ND.out]; rw [ND.out] at Q; exact Q)
    · have xi : ((((⟨#[c0, c1, c2, c3, c4, c5, c6, c7, c8, c9]⟩ : ByteArray)[9]'(by show 9 < 10; omega)).toNat : Nat) : Int) = (c9.toNat : Int) := rfl
      cases k : isDig c9
      · have E : Hid (fitB c0 c1 c2 c3 c4 c5 c6 c7 c8 c9 = false) := (by rw [FB.out, k]; simp : fitB c0 c1 c2 c3 c4 c5 c6 c7 c8 c9 = false)
        have k' := isDig_no k
        have BL : Hid _ := HR.out.bl
        clear k
        generalize (c9.toNat : Int) = C at *
        rcases k' with k' | ⟨k', k''⟩
        · go_wp2
          go_ret2
          exact ⟨by rw [(rd_no E.out).1, (rd_no E.out).2]; rfl, BL.out⟩
        · go_wp2
          go_ret2
          exact ⟨by rw [(rd_no E.out).1, (rd_no E.out).2]; rfl, BL.out⟩
      · have k' := isDig_of k
        have NX : Hid ((0 < 10 → isDig c0 = true) ∧ (1 < 10 → isDig c1 = true) ∧ (2 < 10 → isDig c2 = true) ∧ (3 < 10 → isDig c3 = true) ∧ (4 < 10 → decide ((c4.toNat : Int) = 45) = true) ∧ (5 < 10 → isDig c5 = true) ∧ (6 < 10 → isDig c6 = true) ∧ (7 < 10 → decide ((c7.toNat : Int) = 45) = true) ∧ (8 < 10 → isDig c8 = true) ∧ (9 < 10 → isDig c9 = true)) := (by
          obtain ⟨p0, p1, p2, p3, p4, p5, p6, p7, p8, p9⟩ := P.out
          exact ⟨fun _ => p0 (by omega), fun _ => p1 (by omega), fun _ => p2 (by omega), fun _ => p3 (by omega), fun _ => p4 (by omega), fun _ => p5 (by omega), fun _ => p6 (by omega), fun _ => p7 (by omega), fun _ => p8 (by omega), fun _ => k⟩)
        have R : R3 w wr w.heap.size (10 * (10 * (10 * (dig c0) + dig c1) + dig c2) + dig c3) (10 * (dig c5) + dig c6) (dig c8) := HR.out
        have ND : Hid ((c9.toNat : Int) - 48 = dig c9) := (rfl : (c9.toNat : Int) - 48 = dig c9)
        clear k HR
        obtain ⟨k0, k1⟩ := k'
        have vb : -100000000 ≤ dig c8 ∧ dig c8 ≤ 100000000 := by have := dig_bd c8; omega
        obtain ⟨vb0, vb1⟩ := vb
        generalize hX : dig c8 = X at *
        have HX : Hid _ := hX
        clear hX
        have r2 := R.c2
        have rf := R.fz 2
        have HR : Hid _ := R
        clear R
        generalize (c9.toNat : Int) = C at *
        go_upto_region 15 with fail
        go_region
        go_wp2
        go_roundg 0
        case measure => omega
        case rel =>
          have Q := (HR.out.set2 (10 * X + (C - 48))).drew
          refine ⟨10, by omega, rfl, rfl, ?_, NX⟩
          rw [ND.out] at Q ⊢
          rw [← HX.out] at Q ⊢
          exact Q
    · have E : Hid (fitB c0 c1 c2 c3 c4 c5 c6 c7 c8 c9 = true) := (by
        obtain ⟨p0, p1, p2, p3, p4, p5, p6, p7, p8, p9⟩ := P.out
        rw [FB.out, p0 (by omega), p1 (by omega), p2 (by omega), p3 (by omega), p4 (by omega), p5 (by omega), p6 (by omega), p7 (by omega), p8 (by omega), p9 (by omega)]; rfl)
      have R := HR.out
      rw [fa_end, fb_end, fc_end] at R
      have bd := dg4_bd (a := c0) (b := c1) (c := c2) (d := c3)
      have ES : Hid _ := rd_yes E.out
      generalize dg4 c0 c1 c2 c3 = A at *
      generalize dg2 c5 c6 = B at *
      generalize dg2 c8 c9 = D at *
      have S0 : S3 w w.heap.size A B D wr := R.all
      have S1 : S3 w w.heap.size A B D wr.drew := R.drew.all
      have SB : Hid _ := R.bl
      clear HR R
      go_upto_region 16 with fail
      go_region_held3 (S3 w w.heap.size A B D) (first | with_reducible assumption) (first | (go_at_call 70; refine (rday_any _ _ _ _ bd).mono ?_; rintro e w8 ⟨rfl, rfl⟩))
      all_goals go_wp2
      all_goals go_ret2
      all_goals exact ⟨by rw [ES.out.1, ES.out.2]; rfl, S1.2.2.2⟩
theorem rread_all (c0 c1 c2 c3 c4 c5 c6 c7 c8 c9:UInt8) (w:World) :
  Calls Tryd.prog 54 #[.string ⟨#[c0,c1,c2,c3,c4,c5,c6,c7,c8,c9]⟩] w fun e w'=>e=.returned (.tuple #[.int .i64 (rdN c0 c1 c2 c3 c4 c5 c6 c7 c8 c9),.bool (rdB c0 c1 c2 c3 c4 c5 c6 c7 c8 c9)])∧Below w.heap.size w w':=by
 by_cases k4:(c4.toNat:Int)=45
 ·by_cases k7:(c7.toNat:Int)=45
  ·exact rread_10 c0 c1 c2 c3 c4 c5 c6 c7 c8 c9 w k4 k7
  ·exact rread_stroke c0 c1 c2 c3 c4 c5 c6 c7 c8 c9 w (.inr k7)
 ·exact rread_stroke c0 c1 c2 c3 c4 c5 c6 c7 c8 c9 w (.inl k4)
end Go.Proofs.YtbeahnehjannpaaDoor
