/- Parts of the proof. -/
import Derived.Test.YtbeahnehjannpaaDoorJc
namespace Go.Proofs.YtbeahnehjannpaaDoor
open Go.RowKit
set_option linter.unusedVariables false
set_option linter.unusedSimpArgs false
abbrev vl (k n:Int) (sl:Value):Value:=.agg #[.int .i64 k,.int .i64 n,sl]
structure B3v (w:World) (b:Nat) (v0 v1 v2:Value):Prop where
 c0:w.cell? ⟨b,0,none⟩=some v0
 c1:w.cell? ⟨b,1,none⟩=some v1
 c2:w.cell? ⟨b,2,none⟩=some v2
 fz:∀ i,w.frozen? ⟨b,i,none⟩=false
theorem B3v.lt {w:World} {b:Nat} {v0 v1 v2:Value} (h:B3v w b v0 v1 v2):b<w.heap.size:=World.block_lt_of_cell? _ _ h.c0
theorem B3v.new (w:World) (t:TypeId) (v0 v1 v2:Value):B3v (w.alloc (.cells #[v0,v1,v2] t)) w.heap.size v0 v1 v2:=⟨by simp,by simp,by simp,by simp⟩
theorem B3v.next {w w':World} {b:Nat} {v0 v1 v2:Value} (h:B3v w b v0 v1 v2) (k:Below w.heap.size w w'):B3v w' b v0 v1 v2:=by
 have e:=k.block b h.lt
 have f:∀ i,w'.cell? ⟨b,i,none⟩=w.cell? ⟨b,i,none⟩:=fun i=>World.cell?_of_block (a:=⟨b,i,none⟩) e
 exact ⟨by rw [f];exact h.c0,by rw [f];exact h.c1,by rw [f];exact h.c2,fun i=>by rw [World.frozen?_of_block (a:=⟨b,i,none⟩) e];exact h.fz i⟩
def BdN (n:Int):Prop:=-9007199254740992≤n∧n≤9007199254740992
theorem BdN.a {n:Int} (h:BdN n):-Nm.M63≤n∧n<Nm.M63:=by unfold BdN at h;unfold Nm.M63;omega
set_option maxRecDepth 100000 in
set_option maxHeartbeats 4000000 in
theorem hld_0 (a b:Int) (w:World):Calls Tryd.prog 69 #[.string ⟨#[60]⟩,.int .i64 a,.int .i64 b] w fun e w'=>e=.returned (.bool (hldF ⟨#[60]⟩ a b))∧w=w':=by
 go_enter Tryd.func69,Tryd.ntmps69
 go_wp2_with fail
 go_returns
 exact ⟨rfl,rfl⟩
set_option maxRecDepth 100000 in
set_option maxHeartbeats 4000000 in
theorem hld_1 (a b:Int) (w:World):Calls Tryd.prog 69 #[.string ⟨#[60,61]⟩,.int .i64 a,.int .i64 b] w fun e w'=>e=.returned (.bool (hldF ⟨#[60,61]⟩ a b))∧w=w':=by
 go_enter Tryd.func69,Tryd.ntmps69
 go_wp2_with fail
 go_returns
 exact ⟨rfl,rfl⟩
set_option maxRecDepth 100000 in
set_option maxHeartbeats 4000000 in
theorem hld_2 (a b:Int) (w:World):Calls Tryd.prog 69 #[.string ⟨#[62]⟩,.int .i64 a,.int .i64 b] w fun e w'=>e=.returned (.bool (hldF ⟨#[62]⟩ a b))∧w=w':=by
 go_enter Tryd.func69,Tryd.ntmps69
 go_wp2_with fail
 go_returns
 exact ⟨rfl,rfl⟩
set_option maxRecDepth 100000 in
set_option maxHeartbeats 4000000 in
theorem hld_3 (a b:Int) (w:World):Calls Tryd.prog 69 #[.string ⟨#[62,61]⟩,.int .i64 a,.int .i64 b] w fun e w'=>e=.returned (.bool (hldF ⟨#[62,61]⟩ a b))∧w=w':=by
 go_enter Tryd.func69,Tryd.ntmps69
 go_wp2_with fail
 go_returns
 exact ⟨rfl,rfl⟩
set_option maxRecDepth 100000 in
set_option maxHeartbeats 4000000 in
theorem hld_4 (a b:Int) (w:World):Calls Tryd.prog 69 #[.string ⟨#[61,61]⟩,.int .i64 a,.int .i64 b] w fun e w'=>e=.returned (.bool (hldF ⟨#[61,61]⟩ a b))∧w=w':=by
 go_enter Tryd.func69,Tryd.ntmps69
 go_wp2_with fail
 go_returns
 exact ⟨rfl,rfl⟩
set_option maxRecDepth 100000 in
set_option maxHeartbeats 4000000 in
theorem hld_5 (a b:Int) (w:World):Calls Tryd.prog 69 #[.string ⟨#[33,61]⟩,.int .i64 a,.int .i64 b] w fun e w'=>e=.returned (.bool (hldF ⟨#[33,61]⟩ a b))∧w=w':=by
 go_enter Tryd.func69,Tryd.ntmps69
 go_wp2_with fail
 go_returns
 exact ⟨rfl,rfl⟩
set_option maxRecDepth 100000 in
set_option maxHeartbeats 4000000 in
theorem hld_6 (a b:Int) (w:World):Calls Tryd.prog 69 #[.string ⟨#[110,111,116]⟩,.int .i64 a,.int .i64 b] w fun e w'=>e=.returned (.bool (hldF ⟨#[110,111,116]⟩ a b))∧w=w':=by
 go_enter Tryd.func69,Tryd.ntmps69
 go_wp2_with fail
 go_returns
 exact ⟨rfl,rfl⟩
set_option maxRecDepth 100000 in
set_option maxHeartbeats 4000000 in
theorem product_any (k n j m:Int) (sl sm:Value) (w:World) (hn:BdN n) (hm:BdN m):Calls Tryd.prog 66 #[vl k n sl,vl j m sm] w fun e w'=>e=.returned (.tuple #[.int .i64 (proF k n j m).1,.bool (proF k n j m).2])∧Below w.heap.size w w':=by
 by_cases q:k=j
 ·have e0:=eqM _ _ q
  have f0:=neM' _ _ q
  clear q
  rw [show proF k n j m=(Nm.clip (n*m),Nm.fit (n*m)) from by simp [proF,e0]]
  have K:=hid (fun W=>Nm.mul_any n m W hn.a.1 hn.a.2 hm.a.1 hm.a.2)
  clear hn hm
  have A1:=hid (show Below w.heap.size w ((w.alloc (.cells #[.int .i64 k,.int .i64 n,sl] 62)).alloc (.cells #[.int .i64 j,.int .i64 m,sm] 62)) from ((Below.refl _ _).alloc (Nat.le_refl _) _).alloc (by simp) _)
  have X1:=hid ((B3v.new w 62 (.int .i64 k) (.int .i64 n) sl).next ((Below.refl _ _).alloc (Nat.le_refl _) (.cells #[.int .i64 j,.int .i64 m,sm] 62)))
  have X2:=hid (show B3v ((w.alloc (.cells #[.int .i64 k,.int .i64 n,sl] 62)).alloc (.cells #[.int .i64 j,.int .i64 m,sm] 62)) (w.heap.size+1) (.int .i64 j) (.int .i64 m) sm from by
   have:=B3v.new (w.alloc (.cells #[.int .i64 k,.int .i64 n,sl] 62)) 62 (.int .i64 j) (.int .i64 m) sm
   rw [show (w.alloc (.cells #[.int .i64 k,.int .i64 n,sl] 62)).heap.size=w.heap.size+1 from by simp] at this
   exact this)
  go_enter Tryd.func66,Tryd.ntmps66
  go_upto_region 1 with fail
  generalize World.alloc (World.alloc w _) _=w1 at *
  obtain ⟨c0,c1,c2,_⟩:=X1.out
  obtain ⟨d0,d1,d2,_⟩:=X2.out
  go_wp2_with (go_at_call 74;with_reducible refine Calls.mono (K.out _) ?_;rintro e w2 ⟨rfl,b2⟩;have B2:=hid b2;clear b2)
  go_returns
  exact ⟨rfl,nextB A1.out B2.out⟩
 have e0:=beqM _ _ q
 have f0:=neM _ _ q
 clear q
 by_cases q:k=2
 ·have e1:=eqM _ _ q
  have f1:=neM' _ _ q
  clear q
  rw [show proF k n j m=(Nm.clip (n*m),Nm.fit (n*m)) from by simp [proF,e0,e1]]
  have K:=hid (fun W=>Nm.mul_any n m W hn.a.1 hn.a.2 hm.a.1 hm.a.2)
  clear hn hm
  have A1:=hid (show Below w.heap.size w ((w.alloc (.cells #[.int .i64 k,.int .i64 n,sl] 62)).alloc (.cells #[.int .i64 j,.int .i64 m,sm] 62)) from ((Below.refl _ _).alloc (Nat.le_refl _) _).alloc (by simp) _)
  have X1:=hid ((B3v.new w 62 (.int .i64 k) (.int .i64 n) sl).next ((Below.refl _ _).alloc (Nat.le_refl _) (.cells #[.int .i64 j,.int .i64 m,sm] 62)))
  have X2:=hid (show B3v ((w.alloc (.cells #[.int .i64 k,.int .i64 n,sl] 62)).alloc (.cells #[.int .i64 j,.int .i64 m,sm] 62)) (w.heap.size+1) (.int .i64 j) (.int .i64 m) sm from by
   have:=B3v.new (w.alloc (.cells #[.int .i64 k,.int .i64 n,sl] 62)) 62 (.int .i64 j) (.int .i64 m) sm
   rw [show (w.alloc (.cells #[.int .i64 k,.int .i64 n,sl] 62)).heap.size=w.heap.size+1 from by simp] at this
   exact this)
  go_enter Tryd.func66,Tryd.ntmps66
  go_upto_region 1 with fail
  generalize World.alloc (World.alloc w _) _=w1 at *
  obtain ⟨c0,c1,c2,_⟩:=X1.out
  obtain ⟨d0,d1,d2,_⟩:=X2.out
  go_wp2_with (go_at_call 74;with_reducible refine Calls.mono (K.out _) ?_;rintro e w2 ⟨rfl,b2⟩;have B2:=hid b2;clear b2)
  go_returns
  exact ⟨rfl,nextB A1.out B2.out⟩
 have e1:=beqM _ _ q
 have f1:=neM _ _ q
 clear q
 by_cases q:j=2
 ·have e2:=eqM _ _ q
  have f2:=neM' _ _ q
  clear q
  rw [show proF k n j m=(Nm.clip (n*m),Nm.fit (n*m)) from by simp [proF,e0,e1,e2]]
  have K:=hid (fun W=>Nm.mul_any n m W hn.a.1 hn.a.2 hm.a.1 hm.a.2)
  clear hn hm
  have A1:=hid (show Below w.heap.size w ((w.alloc (.cells #[.int .i64 k,.int .i64 n,sl] 62)).alloc (.cells #[.int .i64 j,.int .i64 m,sm] 62)) from ((Below.refl _ _).alloc (Nat.le_refl _) _).alloc (by simp) _)
  have X1:=hid ((B3v.new w 62 (.int .i64 k) (.int .i64 n) sl).next ((Below.refl _ _).alloc (Nat.le_refl _) (.cells #[.int .i64 j,.int .i64 m,sm] 62)))
  have X2:=hid (show B3v ((w.alloc (.cells #[.int .i64 k,.int .i64 n,sl] 62)).alloc (.cells #[.int .i64 j,.int .i64 m,sm] 62)) (w.heap.size+1) (.int .i64 j) (.int .i64 m) sm from by
   have:=B3v.new (w.alloc (.cells #[.int .i64 k,.int .i64 n,sl] 62)) 62 (.int .i64 j) (.int .i64 m) sm
   rw [show (w.alloc (.cells #[.int .i64 k,.int .i64 n,sl] 62)).heap.size=w.heap.size+1 from by simp] at this
   exact this)
  go_enter Tryd.func66,Tryd.ntmps66
  go_upto_region 1 with fail
  generalize World.alloc (World.alloc w _) _=w1 at *
  obtain ⟨c0,c1,c2,_⟩:=X1.out
  obtain ⟨d0,d1,d2,_⟩:=X2.out
  go_wp2_with (go_at_call 74;with_reducible refine Calls.mono (K.out _) ?_;rintro e w2 ⟨rfl,b2⟩;have B2:=hid b2;clear b2)
  go_returns
  exact ⟨rfl,nextB A1.out B2.out⟩
 have e2:=beqM _ _ q
 have f2:=neM _ _ q
 clear q
 rw [show proF k n j m=(Nm.clip (n*m / 1000000),Nm.fit (n*m / 1000000)) from by simp [proF,e0,e1,e2]]
 have K:=hid (fun W=>Nm.mulfloor_any n m 1000000 W hn.a.1 hn.a.2 hm.a.1 hm.a.2 (by decide) (by decide))
 clear hn hm
 have A1:=hid (show Below w.heap.size w ((w.alloc (.cells #[.int .i64 k,.int .i64 n,sl] 62)).alloc (.cells #[.int .i64 j,.int .i64 m,sm] 62)) from ((Below.refl _ _).alloc (Nat.le_refl _) _).alloc (by simp) _)
 have X1:=hid ((B3v.new w 62 (.int .i64 k) (.int .i64 n) sl).next ((Below.refl _ _).alloc (Nat.le_refl _) (.cells #[.int .i64 j,.int .i64 m,sm] 62)))
 have X2:=hid (show B3v ((w.alloc (.cells #[.int .i64 k,.int .i64 n,sl] 62)).alloc (.cells #[.int .i64 j,.int .i64 m,sm] 62)) (w.heap.size+1) (.int .i64 j) (.int .i64 m) sm from by
  have:=B3v.new (w.alloc (.cells #[.int .i64 k,.int .i64 n,sl] 62)) 62 (.int .i64 j) (.int .i64 m) sm
  rw [show (w.alloc (.cells #[.int .i64 k,.int .i64 n,sl] 62)).heap.size=w.heap.size+1 from by simp] at this
  exact this)
 go_enter Tryd.func66,Tryd.ntmps66
 go_upto_region 1 with fail
 generalize World.alloc (World.alloc w _) _=w1 at *
 obtain ⟨c0,c1,c2,_⟩:=X1.out
 obtain ⟨d0,d1,d2,_⟩:=X2.out
 go_wp2_with (go_at_call 73;with_reducible refine Calls.mono (K.out _) ?_;rintro e w2 ⟨rfl,b2⟩;have B2:=hid b2;clear b2)
 go_returns
 exact ⟨rfl,nextB A1.out B2.out⟩
set_option maxRecDepth 100000 in
set_option maxHeartbeats 4000000 in
theorem quotient_any (k n j m:Int) (sl sm:Value) (w:World) (hn:BdN n) (hm:BdN m) (hz:m≠0):Calls Tryd.prog 67 #[vl k n sl,vl j m sm] w fun e w'=>e=.returned (.tuple #[.int .i64 (quoF k n j m).1,.bool (quoF k n j m).2])∧Below w.heap.size w w':=by
 by_cases q:j=2
 ·have e0:=eqM _ _ q
  clear q
  rw [show quoF k n j m=(Nm.clip (n.fdiv m),Nm.fit (n.fdiv m)) from by simp [quoF,e0]]
  have K:=hid (show ∀ W,Calls Tryd.prog 75 #[.int .i64 n,.int .i64 m] W fun e w'=>e=.returned (.tuple #[.int .i64 (Nm.clip (n.fdiv m)),.bool (Nm.fit (n.fdiv m))])∧w'=W from fun W=>by
   by_cases q:m=-1
   ·subst q;exact Nm.floor_neg n W hn.a.1 hn.a.2
   ·exact Nm.floor_any n m W hn.a.1 hn.a.2 (beqM _ _ hz) (beqM _ _ q))
  clear hn hm hz
  have A1:=hid (show Below w.heap.size w ((w.alloc (.cells #[.int .i64 k,.int .i64 n,sl] 62)).alloc (.cells #[.int .i64 j,.int .i64 m,sm] 62)) from ((Below.refl _ _).alloc (Nat.le_refl _) _).alloc (by simp) _)
  have X1:=hid ((B3v.new w 62 (.int .i64 k) (.int .i64 n) sl).next ((Below.refl _ _).alloc (Nat.le_refl _) (.cells #[.int .i64 j,.int .i64 m,sm] 62)))
  have X2:=hid (show B3v ((w.alloc (.cells #[.int .i64 k,.int .i64 n,sl] 62)).alloc (.cells #[.int .i64 j,.int .i64 m,sm] 62)) (w.heap.size+1) (.int .i64 j) (.int .i64 m) sm from by
   have:=B3v.new (w.alloc (.cells #[.int .i64 k,.int .i64 n,sl] 62)) 62 (.int .i64 j) (.int .i64 m) sm
   rw [show (w.alloc (.cells #[.int .i64 k,.int .i64 n,sl] 62)).heap.size=w.heap.size+1 from by simp] at this
   exact this)
  go_enter Tryd.func67,Tryd.ntmps67
  go_upto_region 1 with fail
  generalize World.alloc (World.alloc w _) _=w1 at *
  obtain ⟨c0,c1,c2,_⟩:=X1.out
  obtain ⟨d0,d1,d2,_⟩:=X2.out
  go_wp2_with (go_at_call 75;with_reducible refine Calls.mono (K.out _) ?_;rintro e w2 ⟨rfl,b2⟩;subst b2)
  go_returns
  exact ⟨rfl,A1.out⟩
 have e0:=beqM _ _ q
 clear q
 by_cases q:m<0
 ·have h9:wrap64 (-m)=-m:=by unfold BdN at hm;unfold wrap64;omega
  rw [show quoF k n j m=(Nm.clip (n*(-1000000) / (-m)),Nm.fit (n*(-1000000) / (-m))) from by simp [quoF,e0,q]]
  have K:=hid (fun W=>Nm.mulfloor_any n (-1000000) (-m) W hn.a.1 hn.a.2 (by decide) (by decide) (by omega) (by have:=hm.a;unfold Nm.M63 at *;unfold BdN at hm;omega))
  clear hn hm hz
  generalize Nm.clip (n*(-1000000) / (-m))=C at *
  generalize Nm.fit (n*(-1000000) / (-m))=D at *
  have A1:=hid (show Below w.heap.size w ((w.alloc (.cells #[.int .i64 k,.int .i64 n,sl] 62)).alloc (.cells #[.int .i64 j,.int .i64 m,sm] 62)) from ((Below.refl _ _).alloc (Nat.le_refl _) _).alloc (by simp) _)
  have X1:=hid ((B3v.new w 62 (.int .i64 k) (.int .i64 n) sl).next ((Below.refl _ _).alloc (Nat.le_refl _) (.cells #[.int .i64 j,.int .i64 m,sm] 62)))
  have X2:=hid (show B3v ((w.alloc (.cells #[.int .i64 k,.int .i64 n,sl] 62)).alloc (.cells #[.int .i64 j,.int .i64 m,sm] 62)) (w.heap.size+1) (.int .i64 j) (.int .i64 m) sm from by
   have:=B3v.new (w.alloc (.cells #[.int .i64 k,.int .i64 n,sl] 62)) 62 (.int .i64 j) (.int .i64 m) sm
   rw [show (w.alloc (.cells #[.int .i64 k,.int .i64 n,sl] 62)).heap.size=w.heap.size+1 from by simp] at this
   exact this)
  go_enter Tryd.func67,Tryd.ntmps67
  go_upto_region 1 with fail
  generalize World.alloc (World.alloc w _) _=w1 at *
  obtain ⟨c0,c1,c2,_⟩:=X1.out
  obtain ⟨d0,d1,d2,_⟩:=X2.out
  go_wp2_with (go_at_call 73;with_reducible refine Calls.mono (K.out _) ?_;rintro e w2 ⟨rfl,b2⟩;have B2:=hid b2;clear b2)
  go_returns
  exact ⟨rfl,nextB A1.out B2.out⟩
 rw [show quoF k n j m=(Nm.clip (n*1000000 / m),Nm.fit (n*1000000 / m)) from by simp [quoF,e0,q]]
 have K:=hid (fun W=>Nm.mulfloor_any n 1000000 m W hn.a.1 hn.a.2 (by decide) (by decide) (by omega) hm.a.2)
 clear hn hm hz
 have A1:=hid (show Below w.heap.size w ((w.alloc (.cells #[.int .i64 k,.int .i64 n,sl] 62)).alloc (.cells #[.int .i64 j,.int .i64 m,sm] 62)) from ((Below.refl _ _).alloc (Nat.le_refl _) _).alloc (by simp) _)
 have X1:=hid ((B3v.new w 62 (.int .i64 k) (.int .i64 n) sl).next ((Below.refl _ _).alloc (Nat.le_refl _) (.cells #[.int .i64 j,.int .i64 m,sm] 62)))
 have X2:=hid (show B3v ((w.alloc (.cells #[.int .i64 k,.int .i64 n,sl] 62)).alloc (.cells #[.int .i64 j,.int .i64 m,sm] 62)) (w.heap.size+1) (.int .i64 j) (.int .i64 m) sm from by
  have:=B3v.new (w.alloc (.cells #[.int .i64 k,.int .i64 n,sl] 62)) 62 (.int .i64 j) (.int .i64 m) sm
  rw [show (w.alloc (.cells #[.int .i64 k,.int .i64 n,sl] 62)).heap.size=w.heap.size+1 from by simp] at this
  exact this)
 go_enter Tryd.func67,Tryd.ntmps67
 go_upto_region 1 with fail
 generalize World.alloc (World.alloc w _) _=w1 at *
 obtain ⟨c0,c1,c2,_⟩:=X1.out
 obtain ⟨d0,d1,d2,_⟩:=X2.out
 go_wp2_with (go_at_call 73;with_reducible refine Calls.mono (K.out _) ?_;rintro e w2 ⟨rfl,b2⟩;have B2:=hid b2;clear b2)
 go_returns
 exact ⟨rfl,nextB A1.out B2.out⟩
set_option maxRecDepth 100000 in
set_option maxHeartbeats 4000000 in
theorem numb_0 (k n j m:Int) (sl sm:Value) (w:World) (hn:BdN n) (hm:BdN m) (hz:¬ (⟨#[43]⟩=(⟨#[47]⟩:ByteArray)∧m=0)):Calls Tryd.prog 51 #[.string ⟨#[43]⟩,vl k n sl,vl j m sm] w fun e w'=>e=.returned (.tuple #[.int .i64 (numF ⟨#[43]⟩ k n j m).1,.bool (numF ⟨#[43]⟩ k n j m).2])∧Below w.heap.size w w':=by
 rw [show numF ⟨#[43]⟩ k n j m=(Nm.clip (n+m),Nm.fit (n+m)) from rfl]
 have K:=hid (fun W=>Nm.add_any n m W hn.a.1 hn.a.2 hm.a.1 hm.a.2)
 clear hn hm hz
 have A1:=hid (show Below w.heap.size w ((w.alloc (.cells #[.int .i64 k,.int .i64 n,sl] 62)).alloc (.cells #[.int .i64 j,.int .i64 m,sm] 62)) from ((Below.refl _ _).alloc (Nat.le_refl _) _).alloc (by simp) _)
 have X1:=hid ((B3v.new w 62 (.int .i64 k) (.int .i64 n) sl).next ((Below.refl _ _).alloc (Nat.le_refl _) (.cells #[.int .i64 j,.int .i64 m,sm] 62)))
 have X2:=hid (show B3v ((w.alloc (.cells #[.int .i64 k,.int .i64 n,sl] 62)).alloc (.cells #[.int .i64 j,.int .i64 m,sm] 62)) (w.heap.size+1) (.int .i64 j) (.int .i64 m) sm from by
  have:=B3v.new (w.alloc (.cells #[.int .i64 k,.int .i64 n,sl] 62)) 62 (.int .i64 j) (.int .i64 m) sm
  rw [show (w.alloc (.cells #[.int .i64 k,.int .i64 n,sl] 62)).heap.size=w.heap.size+1 from by simp] at this
  exact this)
 go_enter Tryd.func51,Tryd.ntmps51
 go_upto_region 1 with fail
 generalize World.alloc (World.alloc w _) _=w1 at *
 obtain ⟨c0,c1,c2,_⟩:=X1.out
 obtain ⟨d0,d1,d2,_⟩:=X2.out
 go_wp2_with (go_at_call 64;with_reducible refine Calls.mono (K.out _) ?_;rintro e w2 ⟨rfl,b2⟩;subst b2)
 go_returns
 exact ⟨rfl,A1.out⟩
set_option maxRecDepth 100000 in
set_option maxHeartbeats 4000000 in
theorem numb_1 (k n j m:Int) (sl sm:Value) (w:World) (hn:BdN n) (hm:BdN m) (hz:¬ (⟨#[45]⟩=(⟨#[47]⟩:ByteArray)∧m=0)):Calls Tryd.prog 51 #[.string ⟨#[45]⟩,vl k n sl,vl j m sm] w fun e w'=>e=.returned (.tuple #[.int .i64 (numF ⟨#[45]⟩ k n j m).1,.bool (numF ⟨#[45]⟩ k n j m).2])∧Below w.heap.size w w':=by
 rw [show numF ⟨#[45]⟩ k n j m=(Nm.clip (n - m),Nm.fit (n - m)) from rfl]
 have K:=hid (fun W=>Nm.sub_any n m W hn.a.1 hn.a.2 hm.a.1 hm.a.2)
 clear hn hm hz
 have A1:=hid (show Below w.heap.size w ((w.alloc (.cells #[.int .i64 k,.int .i64 n,sl] 62)).alloc (.cells #[.int .i64 j,.int .i64 m,sm] 62)) from ((Below.refl _ _).alloc (Nat.le_refl _) _).alloc (by simp) _)
 have X1:=hid ((B3v.new w 62 (.int .i64 k) (.int .i64 n) sl).next ((Below.refl _ _).alloc (Nat.le_refl _) (.cells #[.int .i64 j,.int .i64 m,sm] 62)))
 have X2:=hid (show B3v ((w.alloc (.cells #[.int .i64 k,.int .i64 n,sl] 62)).alloc (.cells #[.int .i64 j,.int .i64 m,sm] 62)) (w.heap.size+1) (.int .i64 j) (.int .i64 m) sm from by
  have:=B3v.new (w.alloc (.cells #[.int .i64 k,.int .i64 n,sl] 62)) 62 (.int .i64 j) (.int .i64 m) sm
  rw [show (w.alloc (.cells #[.int .i64 k,.int .i64 n,sl] 62)).heap.size=w.heap.size+1 from by simp] at this
  exact this)
 go_enter Tryd.func51,Tryd.ntmps51
 go_upto_region 1 with fail
 generalize World.alloc (World.alloc w _) _=w1 at *
 obtain ⟨c0,c1,c2,_⟩:=X1.out
 obtain ⟨d0,d1,d2,_⟩:=X2.out
 go_wp2_with (go_at_call 65;with_reducible refine Calls.mono (K.out _) ?_;rintro e w2 ⟨rfl,b2⟩;subst b2)
 go_returns
 exact ⟨rfl,A1.out⟩
set_option maxRecDepth 100000 in
set_option maxHeartbeats 4000000 in
theorem numb_2 (k n j m:Int) (sl sm:Value) (w:World) (hn:BdN n) (hm:BdN m) (hz:¬ (⟨#[42]⟩=(⟨#[47]⟩:ByteArray)∧m=0)):Calls Tryd.prog 51 #[.string ⟨#[42]⟩,vl k n sl,vl j m sm] w fun e w'=>e=.returned (.tuple #[.int .i64 (numF ⟨#[42]⟩ k n j m).1,.bool (numF ⟨#[42]⟩ k n j m).2])∧Below w.heap.size w w':=by
 rw [show numF ⟨#[42]⟩ k n j m=proF k n j m from rfl]
 have K:=hid (fun W=>product_any k n j m sl sm W hn hm)
 clear hn hm hz
 have A1:=hid (show Below w.heap.size w ((w.alloc (.cells #[.int .i64 k,.int .i64 n,sl] 62)).alloc (.cells #[.int .i64 j,.int .i64 m,sm] 62)) from ((Below.refl _ _).alloc (Nat.le_refl _) _).alloc (by simp) _)
 have X1:=hid ((B3v.new w 62 (.int .i64 k) (.int .i64 n) sl).next ((Below.refl _ _).alloc (Nat.le_refl _) (.cells #[.int .i64 j,.int .i64 m,sm] 62)))
 have X2:=hid (show B3v ((w.alloc (.cells #[.int .i64 k,.int .i64 n,sl] 62)).alloc (.cells #[.int .i64 j,.int .i64 m,sm] 62)) (w.heap.size+1) (.int .i64 j) (.int .i64 m) sm from by
  have:=B3v.new (w.alloc (.cells #[.int .i64 k,.int .i64 n,sl] 62)) 62 (.int .i64 j) (.int .i64 m) sm
  rw [show (w.alloc (.cells #[.int .i64 k,.int .i64 n,sl] 62)).heap.size=w.heap.size+1 from by simp] at this
  exact this)
 go_enter Tryd.func51,Tryd.ntmps51
 go_upto_region 1 with fail
 generalize World.alloc (World.alloc w _) _=w1 at *
 obtain ⟨c0,c1,c2,_⟩:=X1.out
 obtain ⟨d0,d1,d2,_⟩:=X2.out
 go_wp2_with (go_at_call 66;with_reducible refine Calls.mono (K.out _) ?_;rintro e w2 ⟨rfl,b2⟩;have B2:=hid b2;clear b2)
 go_returns
 exact ⟨rfl,nextB A1.out B2.out⟩
set_option maxRecDepth 100000 in
set_option maxHeartbeats 4000000 in
theorem numb_3 (k n j m:Int) (sl sm:Value) (w:World) (hn:BdN n) (hm:BdN m) (hz:¬ (⟨#[47]⟩=(⟨#[47]⟩:ByteArray)∧m=0)):Calls Tryd.prog 51 #[.string ⟨#[47]⟩,vl k n sl,vl j m sm] w fun e w'=>e=.returned (.tuple #[.int .i64 (numF ⟨#[47]⟩ k n j m).1,.bool (numF ⟨#[47]⟩ k n j m).2])∧Below w.heap.size w w':=by
 rw [show numF ⟨#[47]⟩ k n j m=quoF k n j m from rfl]
 have K:=hid (fun W=>quotient_any k n j m sl sm W hn hm (fun e=>hz ⟨rfl,e⟩))
 clear hn hm hz
 have A1:=hid (show Below w.heap.size w ((w.alloc (.cells #[.int .i64 k,.int .i64 n,sl] 62)).alloc (.cells #[.int .i64 j,.int .i64 m,sm] 62)) from ((Below.refl _ _).alloc (Nat.le_refl _) _).alloc (by simp) _)
 have X1:=hid ((B3v.new w 62 (.int .i64 k) (.int .i64 n) sl).next ((Below.refl _ _).alloc (Nat.le_refl _) (.cells #[.int .i64 j,.int .i64 m,sm] 62)))
 have X2:=hid (show B3v ((w.alloc (.cells #[.int .i64 k,.int .i64 n,sl] 62)).alloc (.cells #[.int .i64 j,.int .i64 m,sm] 62)) (w.heap.size+1) (.int .i64 j) (.int .i64 m) sm from by
  have:=B3v.new (w.alloc (.cells #[.int .i64 k,.int .i64 n,sl] 62)) 62 (.int .i64 j) (.int .i64 m) sm
  rw [show (w.alloc (.cells #[.int .i64 k,.int .i64 n,sl] 62)).heap.size=w.heap.size+1 from by simp] at this
  exact this)
 go_enter Tryd.func51,Tryd.ntmps51
 go_upto_region 1 with fail
 generalize World.alloc (World.alloc w _) _=w1 at *
 obtain ⟨c0,c1,c2,_⟩:=X1.out
 obtain ⟨d0,d1,d2,_⟩:=X2.out
 go_wp2_with (go_at_call 67;with_reducible refine Calls.mono (K.out _) ?_;rintro e w2 ⟨rfl,b2⟩;have B2:=hid b2;clear b2)
 go_returns
 exact ⟨rfl,nextB A1.out B2.out⟩
set_option maxRecDepth 100000 in
set_option maxHeartbeats 4000000 in
theorem numb_4 (k n j m:Int) (sl sm:Value) (w:World) (hn:BdN n) (hm:BdN m) (hz:¬ (⟨#[110,101,103]⟩=(⟨#[47]⟩:ByteArray)∧m=0)):Calls Tryd.prog 51 #[.string ⟨#[110,101,103]⟩,vl k n sl,vl j m sm] w fun e w'=>e=.returned (.tuple #[.int .i64 (numF ⟨#[110,101,103]⟩ k n j m).1,.bool (numF ⟨#[110,101,103]⟩ k n j m).2])∧Below w.heap.size w w':=by
 rw [show numF ⟨#[110,101,103]⟩ k n j m=(Nm.clip (0 - n),Nm.fit (0 - n)) from rfl]
 have K:=hid (fun W=>Nm.sub_any 0 n W (by decide) (by decide) hn.a.1 hn.a.2)
 clear hn hm hz
 generalize Nm.clip (0 - n)=C at *
 generalize Nm.fit (0 - n)=D at *
 have A1:=hid (show Below w.heap.size w ((w.alloc (.cells #[.int .i64 k,.int .i64 n,sl] 62)).alloc (.cells #[.int .i64 j,.int .i64 m,sm] 62)) from ((Below.refl _ _).alloc (Nat.le_refl _) _).alloc (by simp) _)
 have X1:=hid ((B3v.new w 62 (.int .i64 k) (.int .i64 n) sl).next ((Below.refl _ _).alloc (Nat.le_refl _) (.cells #[.int .i64 j,.int .i64 m,sm] 62)))
 have X2:=hid (show B3v ((w.alloc (.cells #[.int .i64 k,.int .i64 n,sl] 62)).alloc (.cells #[.int .i64 j,.int .i64 m,sm] 62)) (w.heap.size+1) (.int .i64 j) (.int .i64 m) sm from by
  have:=B3v.new (w.alloc (.cells #[.int .i64 k,.int .i64 n,sl] 62)) 62 (.int .i64 j) (.int .i64 m) sm
  rw [show (w.alloc (.cells #[.int .i64 k,.int .i64 n,sl] 62)).heap.size=w.heap.size+1 from by simp] at this
  exact this)
 go_enter Tryd.func51,Tryd.ntmps51
 go_upto_region 1 with fail
 generalize World.alloc (World.alloc w _) _=w1 at *
 obtain ⟨c0,c1,c2,_⟩:=X1.out
 obtain ⟨d0,d1,d2,_⟩:=X2.out
 go_wp2_with (go_at_call 65;with_reducible refine Calls.mono (K.out _) ?_;rintro e w2 ⟨rfl,b2⟩;subst b2)
 go_returns
 exact ⟨rfl,A1.out⟩
set_option maxRecDepth 100000 in
set_option maxHeartbeats 4000000 in
theorem numb_5 (k n j m:Int) (sl sm:Value) (w:World) (hn:BdN n) (hm:BdN m) (hz:¬ (⟨#[61,61]⟩=(⟨#[47]⟩:ByteArray)∧m=0)):Calls Tryd.prog 51 #[.string ⟨#[61,61]⟩,vl k n sl,vl j m sm] w fun e w'=>e=.returned (.tuple #[.int .i64 (numF ⟨#[61,61]⟩ k n j m).1,.bool (numF ⟨#[61,61]⟩ k n j m).2])∧Below w.heap.size w w':=by
 clear hz
 have H:=hid (fun W=>hld_4 n m W)
 cases q:hldF ⟨#[61,61]⟩ n m with
 | true =>
  rw [q] at H
  rw [show numF ⟨#[61,61]⟩ k n j m=(1,true) from (show numF ⟨#[61,61]⟩ k n j m=((if hldF ⟨#[61,61]⟩ n m then 1 else 0),true) from rfl).trans (by rw [q];rfl)]
  have A1:=hid (show Below w.heap.size w ((w.alloc (.cells #[.int .i64 k,.int .i64 n,sl] 62)).alloc (.cells #[.int .i64 j,.int .i64 m,sm] 62)) from ((Below.refl _ _).alloc (Nat.le_refl _) _).alloc (by simp) _)
  have X1:=hid ((B3v.new w 62 (.int .i64 k) (.int .i64 n) sl).next ((Below.refl _ _).alloc (Nat.le_refl _) (.cells #[.int .i64 j,.int .i64 m,sm] 62)))
  have X2:=hid (show B3v ((w.alloc (.cells #[.int .i64 k,.int .i64 n,sl] 62)).alloc (.cells #[.int .i64 j,.int .i64 m,sm] 62)) (w.heap.size+1) (.int .i64 j) (.int .i64 m) sm from by
   have:=B3v.new (w.alloc (.cells #[.int .i64 k,.int .i64 n,sl] 62)) 62 (.int .i64 j) (.int .i64 m) sm
   rw [show (w.alloc (.cells #[.int .i64 k,.int .i64 n,sl] 62)).heap.size=w.heap.size+1 from by simp] at this
   exact this)
  go_enter Tryd.func51,Tryd.ntmps51
  go_upto_region 1 with fail
  generalize World.alloc (World.alloc w _) _=w1 at *
  obtain ⟨c0,c1,c2,_⟩:=X1.out
  obtain ⟨d0,d1,d2,_⟩:=X2.out
  go_wp2_with (go_at_call 69;with_reducible refine Calls.mono (H.out _) ?_;rintro e w2 ⟨rfl,rfl⟩)
  go_returns
  exact ⟨rfl,A1.out⟩
 | false =>
  rw [q] at H
  rw [show numF ⟨#[61,61]⟩ k n j m=(0,true) from (show numF ⟨#[61,61]⟩ k n j m=((if hldF ⟨#[61,61]⟩ n m then 1 else 0),true) from rfl).trans (by rw [q];rfl)]
  have A1:=hid (show Below w.heap.size w ((w.alloc (.cells #[.int .i64 k,.int .i64 n,sl] 62)).alloc (.cells #[.int .i64 j,.int .i64 m,sm] 62)) from ((Below.refl _ _).alloc (Nat.le_refl _) _).alloc (by simp) _)
  have X1:=hid ((B3v.new w 62 (.int .i64 k) (.int .i64 n) sl).next ((Below.refl _ _).alloc (Nat.le_refl _) (.cells #[.int .i64 j,.int .i64 m,sm] 62)))
  have X2:=hid (show B3v ((w.alloc (.cells #[.int .i64 k,.int .i64 n,sl] 62)).alloc (.cells #[.int .i64 j,.int .i64 m,sm] 62)) (w.heap.size+1) (.int .i64 j) (.int .i64 m) sm from by
   have:=B3v.new (w.alloc (.cells #[.int .i64 k,.int .i64 n,sl] 62)) 62 (.int .i64 j) (.int .i64 m) sm
   rw [show (w.alloc (.cells #[.int .i64 k,.int .i64 n,sl] 62)).heap.size=w.heap.size+1 from by simp] at this
   exact this)
  go_enter Tryd.func51,Tryd.ntmps51
  go_upto_region 1 with fail
  generalize World.alloc (World.alloc w _) _=w1 at *
  obtain ⟨c0,c1,c2,_⟩:=X1.out
  obtain ⟨d0,d1,d2,_⟩:=X2.out
  go_wp2_with (go_at_call 69;with_reducible refine Calls.mono (H.out _) ?_;rintro e w2 ⟨rfl,rfl⟩)
  go_returns
  exact ⟨rfl,A1.out⟩
set_option maxRecDepth 100000 in
set_option maxHeartbeats 4000000 in
theorem numb_6 (k n j m:Int) (sl sm:Value) (w:World) (hn:BdN n) (hm:BdN m) (hz:¬ (⟨#[33,61]⟩=(⟨#[47]⟩:ByteArray)∧m=0)):Calls Tryd.prog 51 #[.string ⟨#[33,61]⟩,vl k n sl,vl j m sm] w fun e w'=>e=.returned (.tuple #[.int .i64 (numF ⟨#[33,61]⟩ k n j m).1,.bool (numF ⟨#[33,61]⟩ k n j m).2])∧Below w.heap.size w w':=by
 clear hz
 have H:=hid (fun W=>hld_5 n m W)
 cases q:hldF ⟨#[33,61]⟩ n m with
 | true =>
  rw [q] at H
  rw [show numF ⟨#[33,61]⟩ k n j m=(1,true) from (show numF ⟨#[33,61]⟩ k n j m=((if hldF ⟨#[33,61]⟩ n m then 1 else 0),true) from rfl).trans (by rw [q];rfl)]
  have A1:=hid (show Below w.heap.size w ((w.alloc (.cells #[.int .i64 k,.int .i64 n,sl] 62)).alloc (.cells #[.int .i64 j,.int .i64 m,sm] 62)) from ((Below.refl _ _).alloc (Nat.le_refl _) _).alloc (by simp) _)
  have X1:=hid ((B3v.new w 62 (.int .i64 k) (.int .i64 n) sl).next ((Below.refl _ _).alloc (Nat.le_refl _) (.cells #[.int .i64 j,.int .i64 m,sm] 62)))
  have X2:=hid (show B3v ((w.alloc (.cells #[.int .i64 k,.int .i64 n,sl] 62)).alloc (.cells #[.int .i64 j,.int .i64 m,sm] 62)) (w.heap.size+1) (.int .i64 j) (.int .i64 m) sm from by
   have:=B3v.new (w.alloc (.cells #[.int .i64 k,.int .i64 n,sl] 62)) 62 (.int .i64 j) (.int .i64 m) sm
   rw [show (w.alloc (.cells #[.int .i64 k,.int .i64 n,sl] 62)).heap.size=w.heap.size+1 from by simp] at this
   exact this)
  go_enter Tryd.func51,Tryd.ntmps51
  go_upto_region 1 with fail
  generalize World.alloc (World.alloc w _) _=w1 at *
  obtain ⟨c0,c1,c2,_⟩:=X1.out
  obtain ⟨d0,d1,d2,_⟩:=X2.out
  go_wp2_with (go_at_call 69;with_reducible refine Calls.mono (H.out _) ?_;rintro e w2 ⟨rfl,rfl⟩)
  go_returns
  exact ⟨rfl,A1.out⟩
 | false =>
  rw [q] at H
  rw [show numF ⟨#[33,61]⟩ k n j m=(0,true) from (show numF ⟨#[33,61]⟩ k n j m=((if hldF ⟨#[33,61]⟩ n m then 1 else 0),true) from rfl).trans (by rw [q];rfl)]
  have A1:=hid (show Below w.heap.size w ((w.alloc (.cells #[.int .i64 k,.int .i64 n,sl] 62)).alloc (.cells #[.int .i64 j,.int .i64 m,sm] 62)) from ((Below.refl _ _).alloc (Nat.le_refl _) _).alloc (by simp) _)
  have X1:=hid ((B3v.new w 62 (.int .i64 k) (.int .i64 n) sl).next ((Below.refl _ _).alloc (Nat.le_refl _) (.cells #[.int .i64 j,.int .i64 m,sm] 62)))
  have X2:=hid (show B3v ((w.alloc (.cells #[.int .i64 k,.int .i64 n,sl] 62)).alloc (.cells #[.int .i64 j,.int .i64 m,sm] 62)) (w.heap.size+1) (.int .i64 j) (.int .i64 m) sm from by
   have:=B3v.new (w.alloc (.cells #[.int .i64 k,.int .i64 n,sl] 62)) 62 (.int .i64 j) (.int .i64 m) sm
   rw [show (w.alloc (.cells #[.int .i64 k,.int .i64 n,sl] 62)).heap.size=w.heap.size+1 from by simp] at this
   exact this)
  go_enter Tryd.func51,Tryd.ntmps51
  go_upto_region 1 with fail
  generalize World.alloc (World.alloc w _) _=w1 at *
  obtain ⟨c0,c1,c2,_⟩:=X1.out
  obtain ⟨d0,d1,d2,_⟩:=X2.out
  go_wp2_with (go_at_call 69;with_reducible refine Calls.mono (H.out _) ?_;rintro e w2 ⟨rfl,rfl⟩)
  go_returns
  exact ⟨rfl,A1.out⟩
set_option maxRecDepth 100000 in
set_option maxHeartbeats 4000000 in
theorem numb_7 (k n j m:Int) (sl sm:Value) (w:World) (hn:BdN n) (hm:BdN m) (hz:¬ (⟨#[60]⟩=(⟨#[47]⟩:ByteArray)∧m=0)):Calls Tryd.prog 51 #[.string ⟨#[60]⟩,vl k n sl,vl j m sm] w fun e w'=>e=.returned (.tuple #[.int .i64 (numF ⟨#[60]⟩ k n j m).1,.bool (numF ⟨#[60]⟩ k n j m).2])∧Below w.heap.size w w':=by
 clear hz
 have H:=hid (fun W=>hld_0 n m W)
 cases q:hldF ⟨#[60]⟩ n m with
 | true =>
  rw [q] at H
  rw [show numF ⟨#[60]⟩ k n j m=(1,true) from (show numF ⟨#[60]⟩ k n j m=((if hldF ⟨#[60]⟩ n m then 1 else 0),true) from rfl).trans (by rw [q];rfl)]
  have A1:=hid (show Below w.heap.size w ((w.alloc (.cells #[.int .i64 k,.int .i64 n,sl] 62)).alloc (.cells #[.int .i64 j,.int .i64 m,sm] 62)) from ((Below.refl _ _).alloc (Nat.le_refl _) _).alloc (by simp) _)
  have X1:=hid ((B3v.new w 62 (.int .i64 k) (.int .i64 n) sl).next ((Below.refl _ _).alloc (Nat.le_refl _) (.cells #[.int .i64 j,.int .i64 m,sm] 62)))
  have X2:=hid (show B3v ((w.alloc (.cells #[.int .i64 k,.int .i64 n,sl] 62)).alloc (.cells #[.int .i64 j,.int .i64 m,sm] 62)) (w.heap.size+1) (.int .i64 j) (.int .i64 m) sm from by
   have:=B3v.new (w.alloc (.cells #[.int .i64 k,.int .i64 n,sl] 62)) 62 (.int .i64 j) (.int .i64 m) sm
   rw [show (w.alloc (.cells #[.int .i64 k,.int .i64 n,sl] 62)).heap.size=w.heap.size+1 from by simp] at this
   exact this)
  go_enter Tryd.func51,Tryd.ntmps51
  go_upto_region 1 with fail
  generalize World.alloc (World.alloc w _) _=w1 at *
  obtain ⟨c0,c1,c2,_⟩:=X1.out
  obtain ⟨d0,d1,d2,_⟩:=X2.out
  go_wp2_with (go_at_call 69;with_reducible refine Calls.mono (H.out _) ?_;rintro e w2 ⟨rfl,rfl⟩)
  go_returns
  exact ⟨rfl,A1.out⟩
 | false =>
  rw [q] at H
  rw [show numF ⟨#[60]⟩ k n j m=(0,true) from (show numF ⟨#[60]⟩ k n j m=((if hldF ⟨#[60]⟩ n m then 1 else 0),true) from rfl).trans (by rw [q];rfl)]
  have A1:=hid (show Below w.heap.size w ((w.alloc (.cells #[.int .i64 k,.int .i64 n,sl] 62)).alloc (.cells #[.int .i64 j,.int .i64 m,sm] 62)) from ((Below.refl _ _).alloc (Nat.le_refl _) _).alloc (by simp) _)
  have X1:=hid ((B3v.new w 62 (.int .i64 k) (.int .i64 n) sl).next ((Below.refl _ _).alloc (Nat.le_refl _) (.cells #[.int .i64 j,.int .i64 m,sm] 62)))
  have X2:=hid (show B3v ((w.alloc (.cells #[.int .i64 k,.int .i64 n,sl] 62)).alloc (.cells #[.int .i64 j,.int .i64 m,sm] 62)) (w.heap.size+1) (.int .i64 j) (.int .i64 m) sm from by
   have:=B3v.new (w.alloc (.cells #[.int .i64 k,.int .i64 n,sl] 62)) 62 (.int .i64 j) (.int .i64 m) sm
   rw [show (w.alloc (.cells #[.int .i64 k,.int .i64 n,sl] 62)).heap.size=w.heap.size+1 from by simp] at this
   exact this)
  go_enter Tryd.func51,Tryd.ntmps51
  go_upto_region 1 with fail
  generalize World.alloc (World.alloc w _) _=w1 at *
  obtain ⟨c0,c1,c2,_⟩:=X1.out
  obtain ⟨d0,d1,d2,_⟩:=X2.out
  go_wp2_with (go_at_call 69;with_reducible refine Calls.mono (H.out _) ?_;rintro e w2 ⟨rfl,rfl⟩)
  go_returns
  exact ⟨rfl,A1.out⟩
set_option maxRecDepth 100000 in
set_option maxHeartbeats 4000000 in
theorem numb_8 (k n j m:Int) (sl sm:Value) (w:World) (hn:BdN n) (hm:BdN m) (hz:¬ (⟨#[60,61]⟩=(⟨#[47]⟩:ByteArray)∧m=0)):Calls Tryd.prog 51 #[.string ⟨#[60,61]⟩,vl k n sl,vl j m sm] w fun e w'=>e=.returned (.tuple #[.int .i64 (numF ⟨#[60,61]⟩ k n j m).1,.bool (numF ⟨#[60,61]⟩ k n j m).2])∧Below w.heap.size w w':=by
 clear hz
 have H:=hid (fun W=>hld_1 n m W)
 cases q:hldF ⟨#[60,61]⟩ n m with
 | true =>
  rw [q] at H
  rw [show numF ⟨#[60,61]⟩ k n j m=(1,true) from (show numF ⟨#[60,61]⟩ k n j m=((if hldF ⟨#[60,61]⟩ n m then 1 else 0),true) from rfl).trans (by rw [q];rfl)]
  have A1:=hid (show Below w.heap.size w ((w.alloc (.cells #[.int .i64 k,.int .i64 n,sl] 62)).alloc (.cells #[.int .i64 j,.int .i64 m,sm] 62)) from ((Below.refl _ _).alloc (Nat.le_refl _) _).alloc (by simp) _)
  have X1:=hid ((B3v.new w 62 (.int .i64 k) (.int .i64 n) sl).next ((Below.refl _ _).alloc (Nat.le_refl _) (.cells #[.int .i64 j,.int .i64 m,sm] 62)))
  have X2:=hid (show B3v ((w.alloc (.cells #[.int .i64 k,.int .i64 n,sl] 62)).alloc (.cells #[.int .i64 j,.int .i64 m,sm] 62)) (w.heap.size+1) (.int .i64 j) (.int .i64 m) sm from by
   have:=B3v.new (w.alloc (.cells #[.int .i64 k,.int .i64 n,sl] 62)) 62 (.int .i64 j) (.int .i64 m) sm
   rw [show (w.alloc (.cells #[.int .i64 k,.int .i64 n,sl] 62)).heap.size=w.heap.size+1 from by simp] at this
   exact this)
  go_enter Tryd.func51,Tryd.ntmps51
  go_upto_region 1 with fail
  generalize World.alloc (World.alloc w _) _=w1 at *
  obtain ⟨c0,c1,c2,_⟩:=X1.out
  obtain ⟨d0,d1,d2,_⟩:=X2.out
  go_wp2_with (go_at_call 69;with_reducible refine Calls.mono (H.out _) ?_;rintro e w2 ⟨rfl,rfl⟩)
  go_returns
  exact ⟨rfl,A1.out⟩
 | false =>
  rw [q] at H
  rw [show numF ⟨#[60,61]⟩ k n j m=(0,true) from (show numF ⟨#[60,61]⟩ k n j m=((if hldF ⟨#[60,61]⟩ n m then 1 else 0),true) from rfl).trans (by rw [q];rfl)]
  have A1:=hid (show Below w.heap.size w ((w.alloc (.cells #[.int .i64 k,.int .i64 n,sl] 62)).alloc (.cells #[.int .i64 j,.int .i64 m,sm] 62)) from ((Below.refl _ _).alloc (Nat.le_refl _) _).alloc (by simp) _)
  have X1:=hid ((B3v.new w 62 (.int .i64 k) (.int .i64 n) sl).next ((Below.refl _ _).alloc (Nat.le_refl _) (.cells #[.int .i64 j,.int .i64 m,sm] 62)))
  have X2:=hid (show B3v ((w.alloc (.cells #[.int .i64 k,.int .i64 n,sl] 62)).alloc (.cells #[.int .i64 j,.int .i64 m,sm] 62)) (w.heap.size+1) (.int .i64 j) (.int .i64 m) sm from by
   have:=B3v.new (w.alloc (.cells #[.int .i64 k,.int .i64 n,sl] 62)) 62 (.int .i64 j) (.int .i64 m) sm
   rw [show (w.alloc (.cells #[.int .i64 k,.int .i64 n,sl] 62)).heap.size=w.heap.size+1 from by simp] at this
   exact this)
  go_enter Tryd.func51,Tryd.ntmps51
  go_upto_region 1 with fail
  generalize World.alloc (World.alloc w _) _=w1 at *
  obtain ⟨c0,c1,c2,_⟩:=X1.out
  obtain ⟨d0,d1,d2,_⟩:=X2.out
  go_wp2_with (go_at_call 69;with_reducible refine Calls.mono (H.out _) ?_;rintro e w2 ⟨rfl,rfl⟩)
  go_returns
  exact ⟨rfl,A1.out⟩
set_option maxRecDepth 100000 in
set_option maxHeartbeats 4000000 in
theorem numb_9 (k n j m:Int) (sl sm:Value) (w:World) (hn:BdN n) (hm:BdN m) (hz:¬ (⟨#[62]⟩=(⟨#[47]⟩:ByteArray)∧m=0)):Calls Tryd.prog 51 #[.string ⟨#[62]⟩,vl k n sl,vl j m sm] w fun e w'=>e=.returned (.tuple #[.int .i64 (numF ⟨#[62]⟩ k n j m).1,.bool (numF ⟨#[62]⟩ k n j m).2])∧Below w.heap.size w w':=by
 clear hz
 have H:=hid (fun W=>hld_2 n m W)
 cases q:hldF ⟨#[62]⟩ n m with
 | true =>
  rw [q] at H
  rw [show numF ⟨#[62]⟩ k n j m=(1,true) from (show numF ⟨#[62]⟩ k n j m=((if hldF ⟨#[62]⟩ n m then 1 else 0),true) from rfl).trans (by rw [q];rfl)]
  have A1:=hid (show Below w.heap.size w ((w.alloc (.cells #[.int .i64 k,.int .i64 n,sl] 62)).alloc (.cells #[.int .i64 j,.int .i64 m,sm] 62)) from ((Below.refl _ _).alloc (Nat.le_refl _) _).alloc (by simp) _)
  have X1:=hid ((B3v.new w 62 (.int .i64 k) (.int .i64 n) sl).next ((Below.refl _ _).alloc (Nat.le_refl _) (.cells #[.int .i64 j,.int .i64 m,sm] 62)))
  have X2:=hid (show B3v ((w.alloc (.cells #[.int .i64 k,.int .i64 n,sl] 62)).alloc (.cells #[.int .i64 j,.int .i64 m,sm] 62)) (w.heap.size+1) (.int .i64 j) (.int .i64 m) sm from by
   have:=B3v.new (w.alloc (.cells #[.int .i64 k,.int .i64 n,sl] 62)) 62 (.int .i64 j) (.int .i64 m) sm
   rw [show (w.alloc (.cells #[.int .i64 k,.int .i64 n,sl] 62)).heap.size=w.heap.size+1 from by simp] at this
   exact this)
  go_enter Tryd.func51,Tryd.ntmps51
  go_upto_region 1 with fail
  generalize World.alloc (World.alloc w _) _=w1 at *
  obtain ⟨c0,c1,c2,_⟩:=X1.out
  obtain ⟨d0,d1,d2,_⟩:=X2.out
  go_wp2_with (go_at_call 69;with_reducible refine Calls.mono (H.out _) ?_;rintro e w2 ⟨rfl,rfl⟩)
  go_returns
  exact ⟨rfl,A1.out⟩
 | false =>
  rw [q] at H
  rw [show numF ⟨#[62]⟩ k n j m=(0,true) from (show numF ⟨#[62]⟩ k n j m=((if hldF ⟨#[62]⟩ n m then 1 else 0),true) from rfl).trans (by rw [q];rfl)]
  have A1:=hid (show Below w.heap.size w ((w.alloc (.cells #[.int .i64 k,.int .i64 n,sl] 62)).alloc (.cells #[.int .i64 j,.int .i64 m,sm] 62)) from ((Below.refl _ _).alloc (Nat.le_refl _) _).alloc (by simp) _)
  have X1:=hid ((B3v.new w 62 (.int .i64 k) (.int .i64 n) sl).next ((Below.refl _ _).alloc (Nat.le_refl _) (.cells #[.int .i64 j,.int .i64 m,sm] 62)))
  have X2:=hid (show B3v ((w.alloc (.cells #[.int .i64 k,.int .i64 n,sl] 62)).alloc (.cells #[.int .i64 j,.int .i64 m,sm] 62)) (w.heap.size+1) (.int .i64 j) (.int .i64 m) sm from by
   have:=B3v.new (w.alloc (.cells #[.int .i64 k,.int .i64 n,sl] 62)) 62 (.int .i64 j) (.int .i64 m) sm
   rw [show (w.alloc (.cells #[.int .i64 k,.int .i64 n,sl] 62)).heap.size=w.heap.size+1 from by simp] at this
   exact this)
  go_enter Tryd.func51,Tryd.ntmps51
  go_upto_region 1 with fail
  generalize World.alloc (World.alloc w _) _=w1 at *
  obtain ⟨c0,c1,c2,_⟩:=X1.out
  obtain ⟨d0,d1,d2,_⟩:=X2.out
  go_wp2_with (go_at_call 69;with_reducible refine Calls.mono (H.out _) ?_;rintro e w2 ⟨rfl,rfl⟩)
  go_returns
  exact ⟨rfl,A1.out⟩
set_option maxRecDepth 100000 in
set_option maxHeartbeats 4000000 in
theorem numb_10 (k n j m:Int) (sl sm:Value) (w:World) (hn:BdN n) (hm:BdN m) (hz:¬ (⟨#[62,61]⟩=(⟨#[47]⟩:ByteArray)∧m=0)):Calls Tryd.prog 51 #[.string ⟨#[62,61]⟩,vl k n sl,vl j m sm] w fun e w'=>e=.returned (.tuple #[.int .i64 (numF ⟨#[62,61]⟩ k n j m).1,.bool (numF ⟨#[62,61]⟩ k n j m).2])∧Below w.heap.size w w':=by
 clear hz
 have H:=hid (fun W=>hld_3 n m W)
 cases q:hldF ⟨#[62,61]⟩ n m with
 | true =>
  rw [q] at H
  rw [show numF ⟨#[62,61]⟩ k n j m=(1,true) from (show numF ⟨#[62,61]⟩ k n j m=((if hldF ⟨#[62,61]⟩ n m then 1 else 0),true) from rfl).trans (by rw [q];rfl)]
  have A1:=hid (show Below w.heap.size w ((w.alloc (.cells #[.int .i64 k,.int .i64 n,sl] 62)).alloc (.cells #[.int .i64 j,.int .i64 m,sm] 62)) from ((Below.refl _ _).alloc (Nat.le_refl _) _).alloc (by simp) _)
  have X1:=hid ((B3v.new w 62 (.int .i64 k) (.int .i64 n) sl).next ((Below.refl _ _).alloc (Nat.le_refl _) (.cells #[.int .i64 j,.int .i64 m,sm] 62)))
  have X2:=hid (show B3v ((w.alloc (.cells #[.int .i64 k,.int .i64 n,sl] 62)).alloc (.cells #[.int .i64 j,.int .i64 m,sm] 62)) (w.heap.size+1) (.int .i64 j) (.int .i64 m) sm from by
   have:=B3v.new (w.alloc (.cells #[.int .i64 k,.int .i64 n,sl] 62)) 62 (.int .i64 j) (.int .i64 m) sm
   rw [show (w.alloc (.cells #[.int .i64 k,.int .i64 n,sl] 62)).heap.size=w.heap.size+1 from by simp] at this
   exact this)
  go_enter Tryd.func51,Tryd.ntmps51
  go_upto_region 1 with fail
  generalize World.alloc (World.alloc w _) _=w1 at *
  obtain ⟨c0,c1,c2,_⟩:=X1.out
  obtain ⟨d0,d1,d2,_⟩:=X2.out
  go_wp2_with (go_at_call 69;with_reducible refine Calls.mono (H.out _) ?_;rintro e w2 ⟨rfl,rfl⟩)
  go_returns
  exact ⟨rfl,A1.out⟩
 | false =>
  rw [q] at H
  rw [show numF ⟨#[62,61]⟩ k n j m=(0,true) from (show numF ⟨#[62,61]⟩ k n j m=((if hldF ⟨#[62,61]⟩ n m then 1 else 0),true) from rfl).trans (by rw [q];rfl)]
  have A1:=hid (show Below w.heap.size w ((w.alloc (.cells #[.int .i64 k,.int .i64 n,sl] 62)).alloc (.cells #[.int .i64 j,.int .i64 m,sm] 62)) from ((Below.refl _ _).alloc (Nat.le_refl _) _).alloc (by simp) _)
  have X1:=hid ((B3v.new w 62 (.int .i64 k) (.int .i64 n) sl).next ((Below.refl _ _).alloc (Nat.le_refl _) (.cells #[.int .i64 j,.int .i64 m,sm] 62)))
  have X2:=hid (show B3v ((w.alloc (.cells #[.int .i64 k,.int .i64 n,sl] 62)).alloc (.cells #[.int .i64 j,.int .i64 m,sm] 62)) (w.heap.size+1) (.int .i64 j) (.int .i64 m) sm from by
   have:=B3v.new (w.alloc (.cells #[.int .i64 k,.int .i64 n,sl] 62)) 62 (.int .i64 j) (.int .i64 m) sm
   rw [show (w.alloc (.cells #[.int .i64 k,.int .i64 n,sl] 62)).heap.size=w.heap.size+1 from by simp] at this
   exact this)
  go_enter Tryd.func51,Tryd.ntmps51
  go_upto_region 1 with fail
  generalize World.alloc (World.alloc w _) _=w1 at *
  obtain ⟨c0,c1,c2,_⟩:=X1.out
  obtain ⟨d0,d1,d2,_⟩:=X2.out
  go_wp2_with (go_at_call 69;with_reducible refine Calls.mono (H.out _) ?_;rintro e w2 ⟨rfl,rfl⟩)
  go_returns
  exact ⟨rfl,A1.out⟩
set_option maxRecDepth 100000 in
set_option maxHeartbeats 4000000 in
theorem numb_11 (k n j m:Int) (sl sm:Value) (w:World) (hn:BdN n) (hm:BdN m) (hz:¬ (⟨#[110,111,116]⟩=(⟨#[47]⟩:ByteArray)∧m=0)):Calls Tryd.prog 51 #[.string ⟨#[110,111,116]⟩,vl k n sl,vl j m sm] w fun e w'=>e=.returned (.tuple #[.int .i64 (numF ⟨#[110,111,116]⟩ k n j m).1,.bool (numF ⟨#[110,111,116]⟩ k n j m).2])∧Below w.heap.size w w':=by
 clear hz
 have H:=hid (fun W=>hld_6 n m W)
 cases q:hldF ⟨#[110,111,116]⟩ n m with
 | true =>
  rw [q] at H
  rw [show numF ⟨#[110,111,116]⟩ k n j m=(1,true) from (show numF ⟨#[110,111,116]⟩ k n j m=((if hldF ⟨#[110,111,116]⟩ n m then 1 else 0),true) from rfl).trans (by rw [q];rfl)]
  have A1:=hid (show Below w.heap.size w ((w.alloc (.cells #[.int .i64 k,.int .i64 n,sl] 62)).alloc (.cells #[.int .i64 j,.int .i64 m,sm] 62)) from ((Below.refl _ _).alloc (Nat.le_refl _) _).alloc (by simp) _)
  have X1:=hid ((B3v.new w 62 (.int .i64 k) (.int .i64 n) sl).next ((Below.refl _ _).alloc (Nat.le_refl _) (.cells #[.int .i64 j,.int .i64 m,sm] 62)))
  have X2:=hid (show B3v ((w.alloc (.cells #[.int .i64 k,.int .i64 n,sl] 62)).alloc (.cells #[.int .i64 j,.int .i64 m,sm] 62)) (w.heap.size+1) (.int .i64 j) (.int .i64 m) sm from by
   have:=B3v.new (w.alloc (.cells #[.int .i64 k,.int .i64 n,sl] 62)) 62 (.int .i64 j) (.int .i64 m) sm
   rw [show (w.alloc (.cells #[.int .i64 k,.int .i64 n,sl] 62)).heap.size=w.heap.size+1 from by simp] at this
   exact this)
  go_enter Tryd.func51,Tryd.ntmps51
  go_upto_region 1 with fail
  generalize World.alloc (World.alloc w _) _=w1 at *
  obtain ⟨c0,c1,c2,_⟩:=X1.out
  obtain ⟨d0,d1,d2,_⟩:=X2.out
  go_wp2_with (go_at_call 69;with_reducible refine Calls.mono (H.out _) ?_;rintro e w2 ⟨rfl,rfl⟩)
  go_returns
  exact ⟨rfl,A1.out⟩
 | false =>
  rw [q] at H
  rw [show numF ⟨#[110,111,116]⟩ k n j m=(0,true) from (show numF ⟨#[110,111,116]⟩ k n j m=((if hldF ⟨#[110,111,116]⟩ n m then 1 else 0),true) from rfl).trans (by rw [q];rfl)]
  have A1:=hid (show Below w.heap.size w ((w.alloc (.cells #[.int .i64 k,.int .i64 n,sl] 62)).alloc (.cells #[.int .i64 j,.int .i64 m,sm] 62)) from ((Below.refl _ _).alloc (Nat.le_refl _) _).alloc (by simp) _)
  have X1:=hid ((B3v.new w 62 (.int .i64 k) (.int .i64 n) sl).next ((Below.refl _ _).alloc (Nat.le_refl _) (.cells #[.int .i64 j,.int .i64 m,sm] 62)))
  have X2:=hid (show B3v ((w.alloc (.cells #[.int .i64 k,.int .i64 n,sl] 62)).alloc (.cells #[.int .i64 j,.int .i64 m,sm] 62)) (w.heap.size+1) (.int .i64 j) (.int .i64 m) sm from by
   have:=B3v.new (w.alloc (.cells #[.int .i64 k,.int .i64 n,sl] 62)) 62 (.int .i64 j) (.int .i64 m) sm
   rw [show (w.alloc (.cells #[.int .i64 k,.int .i64 n,sl] 62)).heap.size=w.heap.size+1 from by simp] at this
   exact this)
  go_enter Tryd.func51,Tryd.ntmps51
  go_upto_region 1 with fail
  generalize World.alloc (World.alloc w _) _=w1 at *
  obtain ⟨c0,c1,c2,_⟩:=X1.out
  obtain ⟨d0,d1,d2,_⟩:=X2.out
  go_wp2_with (go_at_call 69;with_reducible refine Calls.mono (H.out _) ?_;rintro e w2 ⟨rfl,rfl⟩)
  go_returns
  exact ⟨rfl,A1.out⟩
set_option maxRecDepth 100000 in
set_option maxHeartbeats 4000000 in
theorem numb_12 (k n j m:Int) (sl sm:Value) (w:World) (hn:BdN n) (hm:BdN m) (hz:¬ (⟨#[109,105,110]⟩=(⟨#[47]⟩:ByteArray)∧m=0)):Calls Tryd.prog 51 #[.string ⟨#[109,105,110]⟩,vl k n sl,vl j m sm] w fun e w'=>e=.returned (.tuple #[.int .i64 (numF ⟨#[109,105,110]⟩ k n j m).1,.bool (numF ⟨#[109,105,110]⟩ k n j m).2])∧Below w.heap.size w w':=by
 clear hz hn hm
 rcases Int.lt_trichotomy n m with q | q | q
 ·have h2:¬ m<n:=by omega
  have h3:n≤m:=by omega
  have h4:¬ m≤n:=by omega
  rw [show numF ⟨#[109,105,110]⟩ k n j m=(n,true) from (show numF ⟨#[109,105,110]⟩ k n j m=(min n m,true) from rfl).trans (by rw [show min n m=n by omega])]
  have A1:=hid (show Below w.heap.size w ((w.alloc (.cells #[.int .i64 k,.int .i64 n,sl] 62)).alloc (.cells #[.int .i64 j,.int .i64 m,sm] 62)) from ((Below.refl _ _).alloc (Nat.le_refl _) _).alloc (by simp) _)
  have X1:=hid ((B3v.new w 62 (.int .i64 k) (.int .i64 n) sl).next ((Below.refl _ _).alloc (Nat.le_refl _) (.cells #[.int .i64 j,.int .i64 m,sm] 62)))
  have X2:=hid (show B3v ((w.alloc (.cells #[.int .i64 k,.int .i64 n,sl] 62)).alloc (.cells #[.int .i64 j,.int .i64 m,sm] 62)) (w.heap.size+1) (.int .i64 j) (.int .i64 m) sm from by
   have:=B3v.new (w.alloc (.cells #[.int .i64 k,.int .i64 n,sl] 62)) 62 (.int .i64 j) (.int .i64 m) sm
   rw [show (w.alloc (.cells #[.int .i64 k,.int .i64 n,sl] 62)).heap.size=w.heap.size+1 from by simp] at this
   exact this)
  go_enter Tryd.func51,Tryd.ntmps51
  go_upto_region 1 with fail
  generalize World.alloc (World.alloc w _) _=w1 at *
  obtain ⟨c0,c1,c2,_⟩:=X1.out
  obtain ⟨d0,d1,d2,_⟩:=X2.out
  go_wp2_with fail
  go_returns
  exact ⟨rfl,A1.out⟩
 ·subst q
  rw [show numF ⟨#[109,105,110]⟩ k n j n=(n,true) from (show numF ⟨#[109,105,110]⟩ k n j n=(min n n,true) from rfl).trans (by rw [show min n n=n by omega])]
  have A1:=hid (show Below w.heap.size w ((w.alloc (.cells #[.int .i64 k,.int .i64 n,sl] 62)).alloc (.cells #[.int .i64 j,.int .i64 n,sm] 62)) from ((Below.refl _ _).alloc (Nat.le_refl _) _).alloc (by simp) _)
  have X1:=hid ((B3v.new w 62 (.int .i64 k) (.int .i64 n) sl).next ((Below.refl _ _).alloc (Nat.le_refl _) (.cells #[.int .i64 j,.int .i64 n,sm] 62)))
  have X2:=hid (show B3v ((w.alloc (.cells #[.int .i64 k,.int .i64 n,sl] 62)).alloc (.cells #[.int .i64 j,.int .i64 n,sm] 62)) (w.heap.size+1) (.int .i64 j) (.int .i64 n) sm from by
   have:=B3v.new (w.alloc (.cells #[.int .i64 k,.int .i64 n,sl] 62)) 62 (.int .i64 j) (.int .i64 n) sm
   rw [show (w.alloc (.cells #[.int .i64 k,.int .i64 n,sl] 62)).heap.size=w.heap.size+1 from by simp] at this
   exact this)
  go_enter Tryd.func51,Tryd.ntmps51
  go_upto_region 1 with fail
  generalize World.alloc (World.alloc w _) _=w1 at *
  obtain ⟨c0,c1,c2,_⟩:=X1.out
  obtain ⟨d0,d1,d2,_⟩:=X2.out
  go_wp2_with fail
  go_returns
  exact ⟨rfl,A1.out⟩
 ·have h2:¬ n<m:=by omega
  have h3:m≤n:=by omega
  have h4:¬ n≤m:=by omega
  rw [show numF ⟨#[109,105,110]⟩ k n j m=(m,true) from (show numF ⟨#[109,105,110]⟩ k n j m=(min n m,true) from rfl).trans (by rw [show min n m=m by omega])]
  have A1:=hid (show Below w.heap.size w ((w.alloc (.cells #[.int .i64 k,.int .i64 n,sl] 62)).alloc (.cells #[.int .i64 j,.int .i64 m,sm] 62)) from ((Below.refl _ _).alloc (Nat.le_refl _) _).alloc (by simp) _)
  have X1:=hid ((B3v.new w 62 (.int .i64 k) (.int .i64 n) sl).next ((Below.refl _ _).alloc (Nat.le_refl _) (.cells #[.int .i64 j,.int .i64 m,sm] 62)))
  have X2:=hid (show B3v ((w.alloc (.cells #[.int .i64 k,.int .i64 n,sl] 62)).alloc (.cells #[.int .i64 j,.int .i64 m,sm] 62)) (w.heap.size+1) (.int .i64 j) (.int .i64 m) sm from by
   have:=B3v.new (w.alloc (.cells #[.int .i64 k,.int .i64 n,sl] 62)) 62 (.int .i64 j) (.int .i64 m) sm
   rw [show (w.alloc (.cells #[.int .i64 k,.int .i64 n,sl] 62)).heap.size=w.heap.size+1 from by simp] at this
   exact this)
  go_enter Tryd.func51,Tryd.ntmps51
  go_upto_region 1 with fail
  generalize World.alloc (World.alloc w _) _=w1 at *
  obtain ⟨c0,c1,c2,_⟩:=X1.out
  obtain ⟨d0,d1,d2,_⟩:=X2.out
  go_wp2_with fail
  go_returns
  exact ⟨rfl,A1.out⟩
set_option maxRecDepth 100000 in
set_option maxHeartbeats 4000000 in
theorem numb_13 (k n j m:Int) (sl sm:Value) (w:World) (hn:BdN n) (hm:BdN m) (hz:¬ (⟨#[109,97,120]⟩=(⟨#[47]⟩:ByteArray)∧m=0)):Calls Tryd.prog 51 #[.string ⟨#[109,97,120]⟩,vl k n sl,vl j m sm] w fun e w'=>e=.returned (.tuple #[.int .i64 (numF ⟨#[109,97,120]⟩ k n j m).1,.bool (numF ⟨#[109,97,120]⟩ k n j m).2])∧Below w.heap.size w w':=by
 clear hz hn hm
 rcases Int.lt_trichotomy n m with q | q | q
 ·have h2:¬ m<n:=by omega
  have h3:n≤m:=by omega
  have h4:¬ m≤n:=by omega
  rw [show numF ⟨#[109,97,120]⟩ k n j m=(m,true) from (show numF ⟨#[109,97,120]⟩ k n j m=(max n m,true) from rfl).trans (by rw [show max n m=m by omega])]
  have A1:=hid (show Below w.heap.size w ((w.alloc (.cells #[.int .i64 k,.int .i64 n,sl] 62)).alloc (.cells #[.int .i64 j,.int .i64 m,sm] 62)) from ((Below.refl _ _).alloc (Nat.le_refl _) _).alloc (by simp) _)
  have X1:=hid ((B3v.new w 62 (.int .i64 k) (.int .i64 n) sl).next ((Below.refl _ _).alloc (Nat.le_refl _) (.cells #[.int .i64 j,.int .i64 m,sm] 62)))
  have X2:=hid (show B3v ((w.alloc (.cells #[.int .i64 k,.int .i64 n,sl] 62)).alloc (.cells #[.int .i64 j,.int .i64 m,sm] 62)) (w.heap.size+1) (.int .i64 j) (.int .i64 m) sm from by
   have:=B3v.new (w.alloc (.cells #[.int .i64 k,.int .i64 n,sl] 62)) 62 (.int .i64 j) (.int .i64 m) sm
   rw [show (w.alloc (.cells #[.int .i64 k,.int .i64 n,sl] 62)).heap.size=w.heap.size+1 from by simp] at this
   exact this)
  go_enter Tryd.func51,Tryd.ntmps51
  go_upto_region 1 with fail
  generalize World.alloc (World.alloc w _) _=w1 at *
  obtain ⟨c0,c1,c2,_⟩:=X1.out
  obtain ⟨d0,d1,d2,_⟩:=X2.out
  go_wp2_with fail
  go_returns
  exact ⟨rfl,A1.out⟩
 ·subst q
  rw [show numF ⟨#[109,97,120]⟩ k n j n=(n,true) from (show numF ⟨#[109,97,120]⟩ k n j n=(max n n,true) from rfl).trans (by rw [show max n n=n by omega])]
  have A1:=hid (show Below w.heap.size w ((w.alloc (.cells #[.int .i64 k,.int .i64 n,sl] 62)).alloc (.cells #[.int .i64 j,.int .i64 n,sm] 62)) from ((Below.refl _ _).alloc (Nat.le_refl _) _).alloc (by simp) _)
  have X1:=hid ((B3v.new w 62 (.int .i64 k) (.int .i64 n) sl).next ((Below.refl _ _).alloc (Nat.le_refl _) (.cells #[.int .i64 j,.int .i64 n,sm] 62)))
  have X2:=hid (show B3v ((w.alloc (.cells #[.int .i64 k,.int .i64 n,sl] 62)).alloc (.cells #[.int .i64 j,.int .i64 n,sm] 62)) (w.heap.size+1) (.int .i64 j) (.int .i64 n) sm from by
   have:=B3v.new (w.alloc (.cells #[.int .i64 k,.int .i64 n,sl] 62)) 62 (.int .i64 j) (.int .i64 n) sm
   rw [show (w.alloc (.cells #[.int .i64 k,.int .i64 n,sl] 62)).heap.size=w.heap.size+1 from by simp] at this
   exact this)
  go_enter Tryd.func51,Tryd.ntmps51
  go_upto_region 1 with fail
  generalize World.alloc (World.alloc w _) _=w1 at *
  obtain ⟨c0,c1,c2,_⟩:=X1.out
  obtain ⟨d0,d1,d2,_⟩:=X2.out
  go_wp2_with fail
  go_returns
  exact ⟨rfl,A1.out⟩
 ·have h2:¬ n<m:=by omega
  have h3:m≤n:=by omega
  have h4:¬ n≤m:=by omega
  rw [show numF ⟨#[109,97,120]⟩ k n j m=(n,true) from (show numF ⟨#[109,97,120]⟩ k n j m=(max n m,true) from rfl).trans (by rw [show max n m=n by omega])]
  have A1:=hid (show Below w.heap.size w ((w.alloc (.cells #[.int .i64 k,.int .i64 n,sl] 62)).alloc (.cells #[.int .i64 j,.int .i64 m,sm] 62)) from ((Below.refl _ _).alloc (Nat.le_refl _) _).alloc (by simp) _)
  have X1:=hid ((B3v.new w 62 (.int .i64 k) (.int .i64 n) sl).next ((Below.refl _ _).alloc (Nat.le_refl _) (.cells #[.int .i64 j,.int .i64 m,sm] 62)))
  have X2:=hid (show B3v ((w.alloc (.cells #[.int .i64 k,.int .i64 n,sl] 62)).alloc (.cells #[.int .i64 j,.int .i64 m,sm] 62)) (w.heap.size+1) (.int .i64 j) (.int .i64 m) sm from by
   have:=B3v.new (w.alloc (.cells #[.int .i64 k,.int .i64 n,sl] 62)) 62 (.int .i64 j) (.int .i64 m) sm
   rw [show (w.alloc (.cells #[.int .i64 k,.int .i64 n,sl] 62)).heap.size=w.heap.size+1 from by simp] at this
   exact this)
  go_enter Tryd.func51,Tryd.ntmps51
  go_upto_region 1 with fail
  generalize World.alloc (World.alloc w _) _=w1 at *
  obtain ⟨c0,c1,c2,_⟩:=X1.out
  obtain ⟨d0,d1,d2,_⟩:=X2.out
  go_wp2_with fail
  go_returns
  exact ⟨rfl,A1.out⟩
end Go.Proofs.YtbeahnehjannpaaDoor
