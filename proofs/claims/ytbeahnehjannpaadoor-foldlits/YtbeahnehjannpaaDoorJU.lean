/- Parts of the proof. -/
import Derived.Test.YtbeahnehjannpaaDoorJT
import Derived.Test.YtbeahnehjannpaaDoorJu
namespace Go.Proofs.YtbeahnehjannpaaDoor
open Go.RowKit
set_option linter.unusedVariables false
set_option linter.unusedSimpArgs false
set_option maxRecDepth 100000 in
set_option maxHeartbeats 8000000 in
theorem lits_out (a b op:Int) (h:a<0∨4503599627370496<a∨b<0∨4503599627370496<b∨op<0∨3<op) (w:World) (hT:TabU w):Calls Tryd.prog 3 #[.int .i64 a,.int .i64 b,.int .i64 op] w fun e w'=>e=.returned (.bool true)∧Below w.heap.size w w':=by
 have KA:=hid (awakeF w hT)
 clear hT
 by_cases h0:a<0
 ·clear h
  go_enter Tryd.func3,Tryd.ntmps3
  go_wp2_with (go_at_call 4;(with_reducible refine Calls.mono KA.out ?_);rintro e w2 ⟨rfl,b2⟩;have B2:=hid b2;clear b2)
  go_returns
  exact ⟨rfl,nextB B2.out ((Below.refl _ _).alloc (Nat.le_refl _) _)⟩
 by_cases h1:(4503599627370496:Int)<a
 ·clear h
  go_enter Tryd.func3,Tryd.ntmps3
  go_wp2_with (go_at_call 4;(with_reducible refine Calls.mono KA.out ?_);rintro e w2 ⟨rfl,b2⟩;have B2:=hid b2;clear b2)
  go_returns
  exact ⟨rfl,nextB B2.out ((Below.refl _ _).alloc (Nat.le_refl _) _)⟩
 by_cases h2:b<0
 ·clear h
  go_enter Tryd.func3,Tryd.ntmps3
  go_wp2_with (go_at_call 4;(with_reducible refine Calls.mono KA.out ?_);rintro e w2 ⟨rfl,b2⟩;have B2:=hid b2;clear b2)
  go_returns
  exact ⟨rfl,nextB B2.out ((Below.refl _ _).alloc (Nat.le_refl _) _)⟩
 by_cases h3:(4503599627370496:Int)<b
 ·clear h
  go_enter Tryd.func3,Tryd.ntmps3
  go_wp2_with (go_at_call 4;(with_reducible refine Calls.mono KA.out ?_);rintro e w2 ⟨rfl,b2⟩;have B2:=hid b2;clear b2)
  go_returns
  exact ⟨rfl,nextB B2.out ((Below.refl _ _).alloc (Nat.le_refl _) _)⟩
 by_cases h4:op<0
 ·clear h
  go_enter Tryd.func3,Tryd.ntmps3
  go_wp2_with (go_at_call 4;(with_reducible refine Calls.mono KA.out ?_);rintro e w2 ⟨rfl,b2⟩;have B2:=hid b2;clear b2)
  go_returns
  exact ⟨rfl,nextB B2.out ((Below.refl _ _).alloc (Nat.le_refl _) _)⟩
 by_cases h5:(3:Int)<op
 ·clear h
  go_enter Tryd.func3,Tryd.ntmps3
  go_wp2_with (go_at_call 4;(with_reducible refine Calls.mono KA.out ?_);rintro e w2 ⟨rfl,b2⟩;have B2:=hid b2;clear b2)
  go_returns
  exact ⟨rfl,nextB B2.out ((Below.refl _ _).alloc (Nat.le_refl _) _)⟩
 omega
theorem w64 {x:Int} (h1:-9223372036854775808≤x) (h2:x<9223372036854775808):IntKind.i64.wrap x=x∧wrap64 x=x:=by
 constructor
 ·rw [IntKind.wrap_i64];omega
 ·unfold wrap64;omega
theorem lits_any (a b op:Int) (w:World) (hT:TabU w):Calls Tryd.prog 3 #[.int .i64 a,.int .i64 b,.int .i64 op] w fun e w'=>e=.returned (.bool true)∧Below w.heap.size w w':=by
 by_cases h:a<0∨4503599627370496<a∨b<0∨4503599627370496<b∨op<0∨3<op
 ·exact lits_out a b op h w hT
 obtain ⟨n,rfl⟩:=Int.eq_ofNat_of_zero_le (show 0≤a by omega)
 obtain ⟨m,rfl⟩:=Int.eq_ofNat_of_zero_le (show 0≤b by omega)
 have hn:n≤4503599627370496:=by omega
 have hm:m≤4503599627370496:=by omega
 have ho:op=0∨op=1∨op=2∨op=3:=by omega
 clear h
 rcases ho with rfl | rfl | rfl | rfl
 ·obtain ⟨x1,x2⟩:=w64 (x:=(n:Int)+(m:Int)) (by omega) (by omega)
  by_cases q:n+m≤4503599627370496
  ·exact lits_add_yes n m hn hm _ x1 x2 (by omega) (fd_add_yes q) w hT
  ·exact lits_add_no n m hn hm _ x1 x2 (by omega) (fd_add_no (by omega)) w hT
 ·obtain ⟨x1,x2⟩:=w64 (x:=(n:Int) - (m:Int)) (by omega) (by omega)
  exact lits_sub n m hn hm _ x1 x2 (by omega) (fd_sub hn hm) w hT
 ·have pc:((n*m:Nat):Int)=(n:Int)*(m:Int):=Int.natCast_mul n m
  by_cases z:n=0
  ·have p0:n*m=0:=by rw [z,Nat.zero_mul]
   have e:=fd_mul_yes (a:=n) (b:=m) (p:=15+(dec n).length+1) (q:=15+(dec n).length+3) (by omega)
   rw [← pc] at e
   have k:=lits_mul_0 n m hn hm
   rw [← pc] at k
   obtain ⟨x1,x2⟩:=w64 (x:=((n*m:Nat):Int)) (by omega) (by omega)
   exact k _ x1 x2 (eqM _ _ (by omega)) (by omega) e w hT
  ·have q0:=beqM (n:Int) 0 (by omega)
   have q9:¬ (n:Int)=0:=by omega
   have hQ:(4503599627370496:Int).tdiv (n:Int)=((4503599627370496 / n:Nat):Int):=rfl
   have dl:=Nat.div_le_self 4503599627370496 n
   have dm:m≤4503599627370496 / n ↔ n*m≤4503599627370496:=by
    rw [Nat.le_div_iff_mul_le (by omega),Nat.mul_comm]
   generalize 4503599627370496 / n=d at *
   obtain ⟨x1,x2⟩:=w64 (x:=(d:Int)) (by omega) (by omega)
   by_cases q:m≤d
   ·have pl:=dm.1 q
    have e:=fd_mul_yes (a:=n) (b:=m) (p:=15+(dec n).length+1) (q:=15+(dec n).length+3) pl
    have k:=lits_mul_yes n m hn hm
    rw [← pc] at e k
    obtain ⟨y1,y2⟩:=w64 (x:=((n*m:Nat):Int)) (by omega) (by omega)
    exact k _ y1 y2 q0 q9 _ hQ x1 x2 (by omega) (by omega) e w hT
   ·exact lits_mul_no n m hn hm q0 q9 _ hQ x1 x2 (by omega) (fd_mul_no (by
     rcases Nat.lt_or_ge 4503599627370496 (n*m) with y | y
     ·exact y
     ·exact absurd (dm.2 y) q)) w hT
 ·by_cases z:m=0
  ·subst z
   exact lits_div_no n 0 hn hm rfl rfl fd_div_no w hT
  ·have dl:=Nat.div_le_self n m
   have e:=fd_div_yes (a:=n) (b:=m) (p:=15+(dec n).length+1) (q:=15+(dec n).length+3) hn (by omega)
   have hV:(n:Int).tdiv (m:Int)=((n / m:Nat):Int):=rfl
   generalize n / m=d at *
   obtain ⟨x1,x2⟩:=w64 (x:=(d:Int)) (by omega) (by omega)
   exact lits_div_yes n m hn hm _ hV x1 x2 (beqM _ _ (by omega)) (neM _ _ (by omega)) (by omega) (by omega) e w hT
theorem tabU_of {W:World} (h:laidMetH Tryd.prog [("publican/mean.units",Rows.laid_publican_mean_units)] W):TabU W:=by
 obtain ⟨ps,h0,_⟩:=(h:laidMet Tryd.prog [("publican/mean.units",Rows.laid_publican_mean_units)] W)
 exact tabU_lv h0
noncomputable def laidWorld (os : Go.Os) : World :=
  { World.holding Tryd.prog os ⟨#[], #[], []⟩ with heap := (World.holding Tryd.prog os ⟨#[], #[], []⟩).heap.modify 0 fun
      | .cells _ t frozen => .cells unitA t frozen
      | o => o }
end Go.Proofs.YtbeahnehjannpaaDoor
