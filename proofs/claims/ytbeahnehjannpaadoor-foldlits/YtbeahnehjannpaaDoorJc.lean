/- Parts of the proof. -/
import Derived.Test.YtbeahnehjannpaaDoorJb
namespace Go.Proofs.YtbeahnehjannpaaDoor
open Go.RowKit
set_option linter.unusedVariables false
set_option linter.unusedSimpArgs false
theorem neM (a b:Int) (h:a≠b):(a != b)=true:=by simpa using h
theorem eqM (a b:Int) (h:a=b):(a==b)=true:=by simpa using h
theorem neM' (a b:Int) (h:a=b):(a != b)=false:=by simpa using h
set_option maxRecDepth 100000 in
set_option maxHeartbeats 4000000 in
theorem outc_0 (a b:Int) (w:World) (h:TabU w):Calls Tryd.prog 50 #[.string ⟨#[43]⟩,.int .i64 a,.int .i64 b] w fun e w'=>e=.returned (.int .i64 (outF ⟨#[43]⟩ a b))∧Below w.heap.size w w':=by
 have K:=hid (reckM_any ⟨#[43]⟩ (by simp) a b w h)
 generalize outF ⟨#[43]⟩ a b=D at *
 clear h
 go_enter Tryd.func50,Tryd.ntmps50
 go_wp2_with (go_at_call 62;with_reducible refine Calls.mono K.out ?_;rintro e w2 ⟨rfl,b2⟩;have B2:=hid b2;clear b2)
 go_returns
 exact ⟨rfl,B2.out⟩
set_option maxRecDepth 100000 in
set_option maxHeartbeats 4000000 in
theorem outc_1 (a b:Int) (w:World) (h:TabU w):Calls Tryd.prog 50 #[.string ⟨#[45]⟩,.int .i64 a,.int .i64 b] w fun e w'=>e=.returned (.int .i64 (outF ⟨#[45]⟩ a b))∧Below w.heap.size w w':=by
 have K:=hid (reckM_any ⟨#[45]⟩ (by simp) a b w h)
 generalize outF ⟨#[45]⟩ a b=D at *
 clear h
 go_enter Tryd.func50,Tryd.ntmps50
 go_wp2_with (go_at_call 62;with_reducible refine Calls.mono K.out ?_;rintro e w2 ⟨rfl,b2⟩;have B2:=hid b2;clear b2)
 go_returns
 exact ⟨rfl,B2.out⟩
set_option maxRecDepth 100000 in
set_option maxHeartbeats 4000000 in
theorem outc_2 (a b:Int) (w:World) (h:TabU w):Calls Tryd.prog 50 #[.string ⟨#[42]⟩,.int .i64 a,.int .i64 b] w fun e w'=>e=.returned (.int .i64 (outF ⟨#[42]⟩ a b))∧Below w.heap.size w w':=by
 have K:=hid (reckM_any ⟨#[42]⟩ (by simp) a b w h)
 generalize outF ⟨#[42]⟩ a b=D at *
 clear h
 go_enter Tryd.func50,Tryd.ntmps50
 go_wp2_with (go_at_call 62;with_reducible refine Calls.mono K.out ?_;rintro e w2 ⟨rfl,b2⟩;have B2:=hid b2;clear b2)
 go_returns
 exact ⟨rfl,B2.out⟩
set_option maxRecDepth 100000 in
set_option maxHeartbeats 4000000 in
theorem outc_3 (a b:Int) (w:World) (h:TabU w):Calls Tryd.prog 50 #[.string ⟨#[47]⟩,.int .i64 a,.int .i64 b] w fun e w'=>e=.returned (.int .i64 (outF ⟨#[47]⟩ a b))∧Below w.heap.size w w':=by
 have K:=hid (reckM_any ⟨#[47]⟩ (by simp) a b w h)
 generalize outF ⟨#[47]⟩ a b=D at *
 clear h
 go_enter Tryd.func50,Tryd.ntmps50
 go_wp2_with (go_at_call 62;with_reducible refine Calls.mono K.out ?_;rintro e w2 ⟨rfl,b2⟩;have B2:=hid b2;clear b2)
 go_returns
 exact ⟨rfl,B2.out⟩
set_option maxRecDepth 100000 in
set_option maxHeartbeats 4000000 in
theorem outc_4 (a b:Int) (w:World) (h:TabU w):Calls Tryd.prog 50 #[.string ⟨#[110,101,103]⟩,.int .i64 a,.int .i64 b] w fun e w'=>e=.returned (.int .i64 (outF ⟨#[110,101,103]⟩ a b))∧Below w.heap.size w w':=by
 clear h
 have K:=hid (rankedM_any a w)
 by_cases h5:a=5
 ·subst h5
  rw [show rnkM 5=true from rfl] at K
  rw [(show outF ⟨#[110,101,103]⟩ 5 b=(if rnkM 5 && !((5:Int)==5) then 5 else 0) from rfl).trans (show _=0 from by simp [])]
  go_enter Tryd.func50,Tryd.ntmps50
  go_wp2_with (go_at_call 63;with_reducible refine Calls.mono K.out ?_;rintro e w2 ⟨rfl,rfl⟩)
  go_returns
  exact ⟨rfl,Below.refl _ _⟩
 have e5:=beqM _ _ h5
 have f5:=neM _ _ h5
 clear h5
 cases q:rnkM a with
 | true =>
  rw [q] at K
  rw [(show outF ⟨#[110,101,103]⟩ a b=(if rnkM a && !(a==5) then a else 0) from rfl).trans (show _=a from by simp [q,e5])]
  go_enter Tryd.func50,Tryd.ntmps50
  go_wp2_with (go_at_call 63;with_reducible refine Calls.mono K.out ?_;rintro e w2 ⟨rfl,rfl⟩)
  go_returns
  exact ⟨rfl,Below.refl _ _⟩
 | false =>
  rw [q] at K
  rw [(show outF ⟨#[110,101,103]⟩ a b=(if rnkM a && !(a==5) then a else 0) from rfl).trans (show _=0 from by simp [q,e5])]
  go_enter Tryd.func50,Tryd.ntmps50
  go_wp2_with (go_at_call 63;with_reducible refine Calls.mono K.out ?_;rintro e w2 ⟨rfl,rfl⟩)
  go_returns
  exact ⟨rfl,Below.refl _ _⟩
set_option maxRecDepth 100000 in
set_option maxHeartbeats 4000000 in
theorem outc_5 (a b:Int) (w:World) (h:TabU w):Calls Tryd.prog 50 #[.string ⟨#[110,111,116]⟩,.int .i64 a,.int .i64 b] w fun e w'=>e=.returned (.int .i64 (outF ⟨#[110,111,116]⟩ a b))∧Below w.heap.size w w':=by
 clear h
 by_cases q:a=1
 ·have e1:=eqM _ _ q
  clear q
  rw [(show outF ⟨#[110,111,116]⟩ a b=(if a==1 then 1 else 0) from rfl).trans (show _=1 from by simp [e1])]
  go_enter Tryd.func50,Tryd.ntmps50
  go_wp2_with fail
  go_returns
  exact ⟨rfl,Below.refl _ _⟩
 ·have e1:=beqM _ _ q
  clear q
  rw [(show outF ⟨#[110,111,116]⟩ a b=(if a==1 then 1 else 0) from rfl).trans (show _=0 from by simp [e1])]
  go_enter Tryd.func50,Tryd.ntmps50
  go_wp2_with fail
  go_returns
  exact ⟨rfl,Below.refl _ _⟩
set_option maxRecDepth 100000 in
set_option maxHeartbeats 4000000 in
theorem outc_6 (a b:Int) (w:World) (h:TabU w):Calls Tryd.prog 50 #[.string ⟨#[97,110,100]⟩,.int .i64 a,.int .i64 b] w fun e w'=>e=.returned (.int .i64 (outF ⟨#[97,110,100]⟩ a b))∧Below w.heap.size w w':=by
 clear h
 by_cases q:a=1
 ·have e1:=eqM _ _ q
  clear q
  by_cases q2:b=1
  ·have e2:=eqM _ _ q2
   clear q2
   rw [(show outF ⟨#[97,110,100]⟩ a b=(if a==1 && b==1 then 1 else 0) from rfl).trans (show _=1 from by simp [e1,e2])]
   go_enter Tryd.func50,Tryd.ntmps50
   go_wp2_with fail
   go_returns
   exact ⟨rfl,Below.refl _ _⟩
  ·have e2:=beqM _ _ q2
   clear q2
   rw [(show outF ⟨#[97,110,100]⟩ a b=(if a==1 && b==1 then 1 else 0) from rfl).trans (show _=0 from by simp [e1,e2])]
   go_enter Tryd.func50,Tryd.ntmps50
   go_wp2_with fail
   go_returns
   exact ⟨rfl,Below.refl _ _⟩
 ·have e1:=beqM _ _ q
  clear q
  rw [(show outF ⟨#[97,110,100]⟩ a b=(if a==1 && b==1 then 1 else 0) from rfl).trans (show _=0 from by simp [e1])]
  go_enter Tryd.func50,Tryd.ntmps50
  go_wp2_with fail
  go_returns
  exact ⟨rfl,Below.refl _ _⟩
set_option maxRecDepth 100000 in
set_option maxHeartbeats 4000000 in
theorem outc_7 (a b:Int) (w:World) (h:TabU w):Calls Tryd.prog 50 #[.string ⟨#[111,114]⟩,.int .i64 a,.int .i64 b] w fun e w'=>e=.returned (.int .i64 (outF ⟨#[111,114]⟩ a b))∧Below w.heap.size w w':=by
 clear h
 by_cases q:a=1
 ·have e1:=eqM _ _ q
  clear q
  by_cases q2:b=1
  ·have e2:=eqM _ _ q2
   clear q2
   rw [(show outF ⟨#[111,114]⟩ a b=(if a==1 && b==1 then 1 else 0) from rfl).trans (show _=1 from by simp [e1,e2])]
   go_enter Tryd.func50,Tryd.ntmps50
   go_wp2_with fail
   go_returns
   exact ⟨rfl,Below.refl _ _⟩
  ·have e2:=beqM _ _ q2
   clear q2
   rw [(show outF ⟨#[111,114]⟩ a b=(if a==1 && b==1 then 1 else 0) from rfl).trans (show _=0 from by simp [e1,e2])]
   go_enter Tryd.func50,Tryd.ntmps50
   go_wp2_with fail
   go_returns
   exact ⟨rfl,Below.refl _ _⟩
 ·have e1:=beqM _ _ q
  clear q
  rw [(show outF ⟨#[111,114]⟩ a b=(if a==1 && b==1 then 1 else 0) from rfl).trans (show _=0 from by simp [e1])]
  go_enter Tryd.func50,Tryd.ntmps50
  go_wp2_with fail
  go_returns
  exact ⟨rfl,Below.refl _ _⟩
set_option maxRecDepth 100000 in
set_option maxHeartbeats 4000000 in
theorem outc_8 (a b:Int) (w:World) (h:TabU w):Calls Tryd.prog 50 #[.string ⟨#[61,61]⟩,.int .i64 a,.int .i64 b] w fun e w'=>e=.returned (.int .i64 (outF ⟨#[61,61]⟩ a b))∧Below w.heap.size w w':=by
 clear h
 have K:=hid (rankedM_any a w)
 by_cases q:a=b
 ·subst q
  have e0:=eqM a a rfl
  cases q:rnkM a with
  | true =>
   rw [q] at K
   rw [(show outF ⟨#[61,61]⟩ a a=(if a==a && (rnkM a || a==1) then 1 else 0) from rfl).trans (show _=1 from by simp [q])]
   go_enter Tryd.func50,Tryd.ntmps50
   go_wp2_with (go_at_call 63;with_reducible refine Calls.mono K.out ?_;rintro e w2 ⟨rfl,rfl⟩)
   go_returns
   exact ⟨rfl,Below.refl _ _⟩
  | false =>
   rw [q] at K
   by_cases q2:a=1
   ·have e1:=eqM _ _ q2
    clear q2
    rw [(show outF ⟨#[61,61]⟩ a a=(if a==a && (rnkM a || a==1) then 1 else 0) from rfl).trans (show _=1 from by simp [q,e1])]
    go_enter Tryd.func50,Tryd.ntmps50
    go_wp2_with (go_at_call 63;with_reducible refine Calls.mono K.out ?_;rintro e w2 ⟨rfl,rfl⟩)
    go_returns
    exact ⟨rfl,Below.refl _ _⟩
   ·have e1:=beqM _ _ q2
    clear q2
    rw [(show outF ⟨#[61,61]⟩ a a=(if a==a && (rnkM a || a==1) then 1 else 0) from rfl).trans (show _=0 from by simp [q,e1])]
    go_enter Tryd.func50,Tryd.ntmps50
    go_wp2_with (go_at_call 63;with_reducible refine Calls.mono K.out ?_;rintro e w2 ⟨rfl,rfl⟩)
    go_returns
    exact ⟨rfl,Below.refl _ _⟩
 ·have e0:=beqM _ _ q
  clear q
  rw [(show outF ⟨#[61,61]⟩ a b=(if a==b && (rnkM a || a==1) then 1 else 0) from rfl).trans (show _=0 from by simp [e0])]
  go_enter Tryd.func50,Tryd.ntmps50
  go_wp2_with (go_at_call 63;with_reducible refine Calls.mono K.out ?_;rintro e w2 ⟨rfl,rfl⟩)
  go_returns
  exact ⟨rfl,Below.refl _ _⟩
set_option maxRecDepth 100000 in
set_option maxHeartbeats 4000000 in
theorem outc_9 (a b:Int) (w:World) (h:TabU w):Calls Tryd.prog 50 #[.string ⟨#[33,61]⟩,.int .i64 a,.int .i64 b] w fun e w'=>e=.returned (.int .i64 (outF ⟨#[33,61]⟩ a b))∧Below w.heap.size w w':=by
 clear h
 have K:=hid (rankedM_any a w)
 by_cases q:a=b
 ·subst q
  have e0:=eqM a a rfl
  cases q:rnkM a with
  | true =>
   rw [q] at K
   rw [(show outF ⟨#[33,61]⟩ a a=(if a==a && (rnkM a || a==1) then 1 else 0) from rfl).trans (show _=1 from by simp [q])]
   go_enter Tryd.func50,Tryd.ntmps50
   go_wp2_with (go_at_call 63;with_reducible refine Calls.mono K.out ?_;rintro e w2 ⟨rfl,rfl⟩)
   go_returns
   exact ⟨rfl,Below.refl _ _⟩
  | false =>
   rw [q] at K
   by_cases q2:a=1
   ·have e1:=eqM _ _ q2
    clear q2
    rw [(show outF ⟨#[33,61]⟩ a a=(if a==a && (rnkM a || a==1) then 1 else 0) from rfl).trans (show _=1 from by simp [q,e1])]
    go_enter Tryd.func50,Tryd.ntmps50
    go_wp2_with (go_at_call 63;with_reducible refine Calls.mono K.out ?_;rintro e w2 ⟨rfl,rfl⟩)
    go_returns
    exact ⟨rfl,Below.refl _ _⟩
   ·have e1:=beqM _ _ q2
    clear q2
    rw [(show outF ⟨#[33,61]⟩ a a=(if a==a && (rnkM a || a==1) then 1 else 0) from rfl).trans (show _=0 from by simp [q,e1])]
    go_enter Tryd.func50,Tryd.ntmps50
    go_wp2_with (go_at_call 63;with_reducible refine Calls.mono K.out ?_;rintro e w2 ⟨rfl,rfl⟩)
    go_returns
    exact ⟨rfl,Below.refl _ _⟩
 ·have e0:=beqM _ _ q
  clear q
  rw [(show outF ⟨#[33,61]⟩ a b=(if a==b && (rnkM a || a==1) then 1 else 0) from rfl).trans (show _=0 from by simp [e0])]
  go_enter Tryd.func50,Tryd.ntmps50
  go_wp2_with (go_at_call 63;with_reducible refine Calls.mono K.out ?_;rintro e w2 ⟨rfl,rfl⟩)
  go_returns
  exact ⟨rfl,Below.refl _ _⟩
set_option maxRecDepth 100000 in
set_option maxHeartbeats 4000000 in
theorem outc_10 (a b:Int) (w:World) (h:TabU w):Calls Tryd.prog 50 #[.string ⟨#[60]⟩,.int .i64 a,.int .i64 b] w fun e w'=>e=.returned (.int .i64 (outF ⟨#[60]⟩ a b))∧Below w.heap.size w w':=by
 clear h
 have K:=hid (rankedM_any a w)
 by_cases q:a=b
 ·subst q
  have e0:=eqM a a rfl
  cases q:rnkM a with
  | true =>
   rw [q] at K
   rw [(show outF ⟨#[60]⟩ a a=(if a==a && rnkM a then 1 else 0) from rfl).trans (show _=1 from by simp [q])]
   go_enter Tryd.func50,Tryd.ntmps50
   go_wp2_with (go_at_call 63;with_reducible refine Calls.mono K.out ?_;rintro e w2 ⟨rfl,rfl⟩)
   go_returns
   exact ⟨rfl,Below.refl _ _⟩
  | false =>
   rw [q] at K
   rw [(show outF ⟨#[60]⟩ a a=(if a==a && rnkM a then 1 else 0) from rfl).trans (show _=0 from by simp [q])]
   go_enter Tryd.func50,Tryd.ntmps50
   go_wp2_with (go_at_call 63;with_reducible refine Calls.mono K.out ?_;rintro e w2 ⟨rfl,rfl⟩)
   go_returns
   exact ⟨rfl,Below.refl _ _⟩
 ·have e0:=beqM _ _ q
  clear q
  rw [(show outF ⟨#[60]⟩ a b=(if a==b && rnkM a then 1 else 0) from rfl).trans (show _=0 from by simp [e0])]
  go_enter Tryd.func50,Tryd.ntmps50
  go_wp2_with (go_at_call 63;with_reducible refine Calls.mono K.out ?_;rintro e w2 ⟨rfl,rfl⟩)
  go_returns
  exact ⟨rfl,Below.refl _ _⟩
set_option maxRecDepth 100000 in
set_option maxHeartbeats 4000000 in
theorem outc_11 (a b:Int) (w:World) (h:TabU w):Calls Tryd.prog 50 #[.string ⟨#[60,61]⟩,.int .i64 a,.int .i64 b] w fun e w'=>e=.returned (.int .i64 (outF ⟨#[60,61]⟩ a b))∧Below w.heap.size w w':=by
 clear h
 have K:=hid (rankedM_any a w)
 by_cases q:a=b
 ·subst q
  have e0:=eqM a a rfl
  cases q:rnkM a with
  | true =>
   rw [q] at K
   rw [(show outF ⟨#[60,61]⟩ a a=(if a==a && rnkM a then 1 else 0) from rfl).trans (show _=1 from by simp [q])]
   go_enter Tryd.func50,Tryd.ntmps50
   go_wp2_with (go_at_call 63;with_reducible refine Calls.mono K.out ?_;rintro e w2 ⟨rfl,rfl⟩)
   go_returns
   exact ⟨rfl,Below.refl _ _⟩
  | false =>
   rw [q] at K
   rw [(show outF ⟨#[60,61]⟩ a a=(if a==a && rnkM a then 1 else 0) from rfl).trans (show _=0 from by simp [q])]
   go_enter Tryd.func50,Tryd.ntmps50
   go_wp2_with (go_at_call 63;with_reducible refine Calls.mono K.out ?_;rintro e w2 ⟨rfl,rfl⟩)
   go_returns
   exact ⟨rfl,Below.refl _ _⟩
 ·have e0:=beqM _ _ q
  clear q
  rw [(show outF ⟨#[60,61]⟩ a b=(if a==b && rnkM a then 1 else 0) from rfl).trans (show _=0 from by simp [e0])]
  go_enter Tryd.func50,Tryd.ntmps50
  go_wp2_with (go_at_call 63;with_reducible refine Calls.mono K.out ?_;rintro e w2 ⟨rfl,rfl⟩)
  go_returns
  exact ⟨rfl,Below.refl _ _⟩
set_option maxRecDepth 100000 in
set_option maxHeartbeats 4000000 in
theorem outc_12 (a b:Int) (w:World) (h:TabU w):Calls Tryd.prog 50 #[.string ⟨#[62]⟩,.int .i64 a,.int .i64 b] w fun e w'=>e=.returned (.int .i64 (outF ⟨#[62]⟩ a b))∧Below w.heap.size w w':=by
 clear h
 have K:=hid (rankedM_any a w)
 by_cases q:a=b
 ·subst q
  have e0:=eqM a a rfl
  cases q:rnkM a with
  | true =>
   rw [q] at K
   rw [(show outF ⟨#[62]⟩ a a=(if a==a && rnkM a then 1 else 0) from rfl).trans (show _=1 from by simp [q])]
   go_enter Tryd.func50,Tryd.ntmps50
   go_wp2_with (go_at_call 63;with_reducible refine Calls.mono K.out ?_;rintro e w2 ⟨rfl,rfl⟩)
   go_returns
   exact ⟨rfl,Below.refl _ _⟩
  | false =>
   rw [q] at K
   rw [(show outF ⟨#[62]⟩ a a=(if a==a && rnkM a then 1 else 0) from rfl).trans (show _=0 from by simp [q])]
   go_enter Tryd.func50,Tryd.ntmps50
   go_wp2_with (go_at_call 63;with_reducible refine Calls.mono K.out ?_;rintro e w2 ⟨rfl,rfl⟩)
   go_returns
   exact ⟨rfl,Below.refl _ _⟩
 ·have e0:=beqM _ _ q
  clear q
  rw [(show outF ⟨#[62]⟩ a b=(if a==b && rnkM a then 1 else 0) from rfl).trans (show _=0 from by simp [e0])]
  go_enter Tryd.func50,Tryd.ntmps50
  go_wp2_with (go_at_call 63;with_reducible refine Calls.mono K.out ?_;rintro e w2 ⟨rfl,rfl⟩)
  go_returns
  exact ⟨rfl,Below.refl _ _⟩
set_option maxRecDepth 100000 in
set_option maxHeartbeats 4000000 in
theorem outc_13 (a b:Int) (w:World) (h:TabU w):Calls Tryd.prog 50 #[.string ⟨#[62,61]⟩,.int .i64 a,.int .i64 b] w fun e w'=>e=.returned (.int .i64 (outF ⟨#[62,61]⟩ a b))∧Below w.heap.size w w':=by
 clear h
 have K:=hid (rankedM_any a w)
 by_cases q:a=b
 ·subst q
  have e0:=eqM a a rfl
  cases q:rnkM a with
  | true =>
   rw [q] at K
   rw [(show outF ⟨#[62,61]⟩ a a=(if a==a && rnkM a then 1 else 0) from rfl).trans (show _=1 from by simp [q])]
   go_enter Tryd.func50,Tryd.ntmps50
   go_wp2_with (go_at_call 63;with_reducible refine Calls.mono K.out ?_;rintro e w2 ⟨rfl,rfl⟩)
   go_returns
   exact ⟨rfl,Below.refl _ _⟩
  | false =>
   rw [q] at K
   rw [(show outF ⟨#[62,61]⟩ a a=(if a==a && rnkM a then 1 else 0) from rfl).trans (show _=0 from by simp [q])]
   go_enter Tryd.func50,Tryd.ntmps50
   go_wp2_with (go_at_call 63;with_reducible refine Calls.mono K.out ?_;rintro e w2 ⟨rfl,rfl⟩)
   go_returns
   exact ⟨rfl,Below.refl _ _⟩
 ·have e0:=beqM _ _ q
  clear q
  rw [(show outF ⟨#[62,61]⟩ a b=(if a==b && rnkM a then 1 else 0) from rfl).trans (show _=0 from by simp [e0])]
  go_enter Tryd.func50,Tryd.ntmps50
  go_wp2_with (go_at_call 63;with_reducible refine Calls.mono K.out ?_;rintro e w2 ⟨rfl,rfl⟩)
  go_returns
  exact ⟨rfl,Below.refl _ _⟩
set_option maxRecDepth 100000 in
set_option maxHeartbeats 4000000 in
theorem outc_14 (a b:Int) (w:World) (h:TabU w):Calls Tryd.prog 50 #[.string ⟨#[109,105,110]⟩,.int .i64 a,.int .i64 b] w fun e w'=>e=.returned (.int .i64 (outF ⟨#[109,105,110]⟩ a b))∧Below w.heap.size w w':=by
 clear h
 have K:=hid (rankedM_any a w)
 by_cases q:a=b
 ·subst q
  have e0:=eqM a a rfl
  cases q:rnkM a with
  | true =>
   rw [q] at K
   rw [(show outF ⟨#[109,105,110]⟩ a a=(if a==a && rnkM a then a else 0) from rfl).trans (show _=a from by simp [q])]
   go_enter Tryd.func50,Tryd.ntmps50
   go_wp2_with (go_at_call 63;with_reducible refine Calls.mono K.out ?_;rintro e w2 ⟨rfl,rfl⟩)
   go_returns
   exact ⟨rfl,Below.refl _ _⟩
  | false =>
   rw [q] at K
   rw [(show outF ⟨#[109,105,110]⟩ a a=(if a==a && rnkM a then a else 0) from rfl).trans (show _=0 from by simp [q])]
   go_enter Tryd.func50,Tryd.ntmps50
   go_wp2_with (go_at_call 63;with_reducible refine Calls.mono K.out ?_;rintro e w2 ⟨rfl,rfl⟩)
   go_returns
   exact ⟨rfl,Below.refl _ _⟩
 ·have e0:=beqM _ _ q
  clear q
  rw [(show outF ⟨#[109,105,110]⟩ a b=(if a==b && rnkM a then a else 0) from rfl).trans (show _=0 from by simp [e0])]
  go_enter Tryd.func50,Tryd.ntmps50
  go_wp2_with (go_at_call 63;with_reducible refine Calls.mono K.out ?_;rintro e w2 ⟨rfl,rfl⟩)
  go_returns
  exact ⟨rfl,Below.refl _ _⟩
set_option maxRecDepth 100000 in
set_option maxHeartbeats 4000000 in
theorem outc_15 (a b:Int) (w:World) (h:TabU w):Calls Tryd.prog 50 #[.string ⟨#[109,97,120]⟩,.int .i64 a,.int .i64 b] w fun e w'=>e=.returned (.int .i64 (outF ⟨#[109,97,120]⟩ a b))∧Below w.heap.size w w':=by
 clear h
 have K:=hid (rankedM_any a w)
 by_cases q:a=b
 ·subst q
  have e0:=eqM a a rfl
  cases q:rnkM a with
  | true =>
   rw [q] at K
   rw [(show outF ⟨#[109,97,120]⟩ a a=(if a==a && rnkM a then a else 0) from rfl).trans (show _=a from by simp [q])]
   go_enter Tryd.func50,Tryd.ntmps50
   go_wp2_with (go_at_call 63;with_reducible refine Calls.mono K.out ?_;rintro e w2 ⟨rfl,rfl⟩)
   go_returns
   exact ⟨rfl,Below.refl _ _⟩
  | false =>
   rw [q] at K
   rw [(show outF ⟨#[109,97,120]⟩ a a=(if a==a && rnkM a then a else 0) from rfl).trans (show _=0 from by simp [q])]
   go_enter Tryd.func50,Tryd.ntmps50
   go_wp2_with (go_at_call 63;with_reducible refine Calls.mono K.out ?_;rintro e w2 ⟨rfl,rfl⟩)
   go_returns
   exact ⟨rfl,Below.refl _ _⟩
 ·have e0:=beqM _ _ q
  clear q
  rw [(show outF ⟨#[109,97,120]⟩ a b=(if a==b && rnkM a then a else 0) from rfl).trans (show _=0 from by simp [e0])]
  go_enter Tryd.func50,Tryd.ntmps50
  go_wp2_with (go_at_call 63;with_reducible refine Calls.mono K.out ?_;rintro e w2 ⟨rfl,rfl⟩)
  go_returns
  exact ⟨rfl,Below.refl _ _⟩
def ops16:List ByteArray:=[⟨#[43]⟩,⟨#[45]⟩,⟨#[42]⟩,⟨#[47]⟩,⟨#[110,101,103]⟩,⟨#[110,111,116]⟩,⟨#[97,110,100]⟩,⟨#[111,114]⟩,⟨#[61,61]⟩,⟨#[33,61]⟩,⟨#[60]⟩,⟨#[60,61]⟩,⟨#[62]⟩,⟨#[62,61]⟩,⟨#[109,105,110]⟩,⟨#[109,97,120]⟩]
theorem outcome_any (op:ByteArray) (ho:op ∈ ops16) (a b:Int) (w:World) (h:TabU w):Calls Tryd.prog 50 #[.string op,.int .i64 a,.int .i64 b] w fun e w'=>e=.returned (.int .i64 (outF op a b))∧Below w.heap.size w w':=by
 simp only [ops16,List.mem_cons,List.not_mem_nil,or_false] at ho
 rcases ho with rfl | rfl | rfl | rfl | rfl | rfl | rfl | rfl | rfl | rfl | rfl | rfl | rfl | rfl | rfl | rfl
 ·exact outc_0 a b w h
 ·exact outc_1 a b w h
 ·exact outc_2 a b w h
 ·exact outc_3 a b w h
 ·exact outc_4 a b w h
 ·exact outc_5 a b w h
 ·exact outc_6 a b w h
 ·exact outc_7 a b w h
 ·exact outc_8 a b w h
 ·exact outc_9 a b w h
 ·exact outc_10 a b w h
 ·exact outc_11 a b w h
 ·exact outc_12 a b w h
 ·exact outc_13 a b w h
 ·exact outc_14 a b w h
 ·exact outc_15 a b w h
set_option maxHeartbeats 4000000 in
theorem within_any (k n:Int) (w:World):Calls Tryd.prog 52 #[.int .i64 k,.int .i64 n] w fun e w'=>e=.returned (.bool (wthF k n))∧w=w':=by
 by_cases h1:k=1
 ·subst h1
  by_cases q:n=0
  ·have e:=eqM _ _ q
   clear q
   rw [show wthF 1 n=true from by simp [wthF,e]]
   go_enter Tryd.func52,Tryd.ntmps52
   go_wp2_with fail
   go_returns
   exact ⟨rfl,rfl⟩
  ·have e:=beqM _ _ q
   clear q
   by_cases q:n=1
   ·have f:=eqM _ _ q
    clear q
    rw [show wthF 1 n=true from by simp [wthF,f]]
    go_enter Tryd.func52,Tryd.ntmps52
    go_wp2_with fail
    go_returns
    exact ⟨rfl,rfl⟩
   ·have f:=beqM _ _ q
    clear q
    rw [show wthF 1 n=false from by simp [wthF,e,f]]
    go_enter Tryd.func52,Tryd.ntmps52
    go_wp2_with fail
    go_returns
    exact ⟨rfl,rfl⟩
 by_cases h2:k=2
 ·subst h2
  by_cases q:(-4503599627370496:Int)≤n
  ·by_cases p:n≤(4503599627370496:Int)
   ·rw [show wthF 2 n=true from by simp [wthF,q,p]]
    go_enter Tryd.func52,Tryd.ntmps52
    go_wp2_with fail
    go_returns
    exact ⟨rfl,rfl⟩
   ·rw [show wthF 2 n=false from by simp [wthF,q,p]]
    go_enter Tryd.func52,Tryd.ntmps52
    go_wp2_with fail
    go_returns
    exact ⟨rfl,rfl⟩
  ·rw [show wthF 2 n=false from by simp [wthF,q]]
   go_enter Tryd.func52,Tryd.ntmps52
   go_wp2_with fail
   go_returns
   exact ⟨rfl,rfl⟩
 by_cases h3:k=3
 ·subst h3
  by_cases q:(-4503599627370496:Int)≤n
  ·by_cases p:n≤(4503599627370496:Int)
   ·rw [show wthF 3 n=true from by simp [wthF,q,p]]
    go_enter Tryd.func52,Tryd.ntmps52
    go_wp2_with fail
    go_returns
    exact ⟨rfl,rfl⟩
   ·rw [show wthF 3 n=false from by simp [wthF,q,p]]
    go_enter Tryd.func52,Tryd.ntmps52
    go_wp2_with fail
    go_returns
    exact ⟨rfl,rfl⟩
  ·rw [show wthF 3 n=false from by simp [wthF,q]]
   go_enter Tryd.func52,Tryd.ntmps52
   go_wp2_with fail
   go_returns
   exact ⟨rfl,rfl⟩
 by_cases h4:k=4
 ·subst h4
  by_cases q:(-1000000000000:Int)≤n
  ·by_cases p:n≤(1000000000000:Int)
   ·rw [show wthF 4 n=true from by simp [wthF,q,p]]
    go_enter Tryd.func52,Tryd.ntmps52
    go_wp2_with fail
    go_returns
    exact ⟨rfl,rfl⟩
   ·rw [show wthF 4 n=false from by simp [wthF,q,p]]
    go_enter Tryd.func52,Tryd.ntmps52
    go_wp2_with fail
    go_returns
    exact ⟨rfl,rfl⟩
  ·rw [show wthF 4 n=false from by simp [wthF,q]]
   go_enter Tryd.func52,Tryd.ntmps52
   go_wp2_with fail
   go_returns
   exact ⟨rfl,rfl⟩
 by_cases h5:k=5
 ·subst h5
  by_cases q:(0:Int)≤n
  ·by_cases p:n≤(109572:Int)
   ·rw [show wthF 5 n=true from by simp [wthF,q,p]]
    go_enter Tryd.func52,Tryd.ntmps52
    go_wp2_with fail
    go_returns
    exact ⟨rfl,rfl⟩
   ·rw [show wthF 5 n=false from by simp [wthF,q,p]]
    go_enter Tryd.func52,Tryd.ntmps52
    go_wp2_with fail
    go_returns
    exact ⟨rfl,rfl⟩
  ·rw [show wthF 5 n=false from by simp [wthF,q]]
   go_enter Tryd.func52,Tryd.ntmps52
   go_wp2_with fail
   go_returns
   exact ⟨rfl,rfl⟩
 have e1:=beqM _ _ h1
 have e2:=beqM _ _ h2
 have e3:=beqM _ _ h3
 have e4:=beqM _ _ h4
 have e5:=beqM _ _ h5
 clear h1 h2 h3 h4 h5
 rw [show wthF k n=false from by simp [wthF,e1,e2,e3,e4,e5]]
 go_enter Tryd.func52,Tryd.ntmps52
 go_wp2_with fail
 go_returns
 exact ⟨rfl,rfl⟩
theorem outside_any (k:Int) (w:World):Calls Tryd.prog 53 #[.int .i64 k] w fun e w'=>e=.returned (.int .i64 (if k=5 then 12 else 10))∧w=w':=by
 by_cases h:k=5
 ·subst h
  rw [if_pos rfl]
  go_enter Tryd.func53,Tryd.ntmps53
  go_wp2_with fail
  go_returns
  exact ⟨rfl,rfl⟩
 ·rw [if_neg h]
  have e:=beqM _ _ h
  clear h
  go_enter Tryd.func53,Tryd.ntmps53
  go_wp2_with fail
  go_returns
  exact ⟨rfl,rfl⟩
end Go.Proofs.YtbeahnehjannpaaDoor
