/- Parts of the proof. -/
import Derived.Test.YteknljnjcoehoaaGreatDoorKM
import Derived.Test.YteknljnjcoehoaaGreatDoorKK
import Derived.BigQuiet
import Derived.Deep.RegionHeld3
namespace Go.Proofs.YteknljnjcoehoaaGreatDoor
open Go.RowKit
set_option linter.unusedVariables false
set_option linter.unusedSimpArgs false
set_option maxRecDepth 100000 in
set_option maxHeartbeats 4000000 in
theorem ofOne_at {w:World} {b0 b1 b2 b3 b4 p:Nat} {ks:List Tr} {be:List (ByteArray × Nat)} {loc:List ByteArray} {f:Nat} (h:Scp w b0 b1 b2 b3 b4 p ks be loc f) (nm:ByteArray) (kind:Nat) (n:Int) (pl:Nat) (v:Value) (hv:v.oneCell'=true) (a:Int) :
  Calls Tryz.prog 199 #[.pointer (some ⟨p,0,none⟩),.agg #[.string ⟨#[97,116]⟩,.string nm,.int .i64 (kind:Nat),.int .i64 n,.int .i64 (pl:Nat),v],.int .i64 a] w fun e w'=>e=.returned (.int .i64 (tabV ks nm a))∧Below w.heap.size w w':=by
 have B1:=hid (show Below w.heap.size w (w.alloc (.cells #[.string ⟨#[97,116]⟩,.string nm,.int .i64 (kind:Nat),.int .i64 n,.int .i64 (pl:Nat),v] 26)) from (Below.refl _ _).alloc (Nat.le_refl _) _)
 have X1:=hid (B6.new w 26 (.string ⟨#[97,116]⟩) (.string nm) (.int .i64 (kind:Nat)) (.int .i64 n) (.int .i64 (pl:Nat)) v)
 have S1:=hid (h.next B1.out)
 have KO:=hid only_any
 obtain ⟨sa,sm,sc,lk⟩:=S1.out.k1 nm
 have LK:=hid lk
 obtain ⟨D,hD⟩:∃ D,tabV ks nm a=D:=⟨_,rfl⟩
 rw [hD]
 have DH:=hid (show onl ((tabK ks nm).isSome && (a==((tabK ks nm).getD Tr.zero).n)) (((tabK ks nm).getD Tr.zero).kind:Nat)=D from by
  rw [← hD]
  unfold tabV
  cases tabK ks nm with
  | none=>rfl
  | some t=>rfl)
 clear h hD lk
 generalize (tabK ks nm).isSome=tb at *
 generalize ((tabK ks nm).getD Tr.zero).op=xo at *
 generalize ((tabK ks nm).getD Tr.zero).name=xn at *
 generalize ((tabK ks nm).getD Tr.zero).kind=xk at *
 generalize ((tabK ks nm).getD Tr.zero).n=xN at *
 generalize ((tabK ks nm).getD Tr.zero).pl=xp at *
 go_enter Tryz.func199,Tryz.ntmps199
 go_upto_region 9 with fail
 generalize World.alloc w _=w1 at *
 have bl:=hid X1.out.lt
 have QW:=hid (Nat.le_of_lt X1.out.lt)
 refine wp_region_held_drew (S:=fun W=>Below w1.heap.size w1 W) (by kernel_rfl) (Below.refl _ _).drew (fun hHeld=>?_)
 refine take2 rfl (i:=0) (v:=.pointer (some ⟨p,0,none⟩)) (d:=30) rfl rfl (by kernel_rfl) (by kernel_rfl) (by kernel_rfl) (fun _ _ _ h=>h) (Or.inl ⟨by rfl,?_⟩) hHeld ?_
 ·(intro W hW;(try dsimp only at hW);go_simp)
 try simp only [Act.put,List.setIfInBounds_toArray,List.set_cons_zero,List.set_cons_succ]
 refine take2 rfl (i:=1) (v:=.pointer (some ⟨p,0,none⟩)) (d:=31) rfl rfl (by kernel_rfl) (by kernel_rfl) (by kernel_rfl) (fun _ _ _ h=>h) (Or.inl ⟨by rfl,?_⟩) hHeld ?_
 ·(intro W hW;(try dsimp only at hW);go_simp)
 try simp only [Act.put,List.setIfInBounds_toArray,List.set_cons_zero,List.set_cons_succ]
 refine take2 rfl (i:=2) (v:=.pointer (some ⟨p,1,none⟩)) (d:=32) rfl rfl (by kernel_rfl) (by kernel_rfl) (by kernel_rfl) (fun _ _ _ h=>h) (Or.inl ⟨by rfl,?_⟩) hHeld ?_
 ·(intro W hW;(try dsimp only at hW);go_simp)
 try simp only [Act.put,List.setIfInBounds_toArray,List.set_cons_zero,List.set_cons_succ]
 refine take2 rfl (i:=3) (v:=.map (some b1)) (d:=33) rfl rfl (by kernel_rfl) (by kernel_rfl) (by kernel_rfl) (fun _ _ _ h=>h) (Or.inl ⟨by rfl,?_⟩) hHeld ?_
 ·(intro W hW;(try dsimp only at hW);have c1:=(S1.out.next hW).c1;go_simp)
 try simp only [Act.put,List.setIfInBounds_toArray,List.set_cons_zero,List.set_cons_succ]
 refine take2 rfl (i:=4) (v:=.pointer (some ⟨w.heap.size,1,none⟩)) (d:=34) rfl rfl (by kernel_rfl) (by kernel_rfl) (by kernel_rfl) (fun _ _ _ h=>h) (Or.inl ⟨by rfl,?_⟩) hHeld ?_
 ·(intro W hW;(try dsimp only at hW);go_simp)
 try simp only [Act.put,List.setIfInBounds_toArray,List.set_cons_zero,List.set_cons_succ]
 refine take2 rfl (i:=5) (v:=.string nm) (d:=35) rfl rfl (by kernel_rfl) (by kernel_rfl) (by kernel_rfl) (fun _ _ _ h=>h) (Or.inl ⟨by rfl,?_⟩) hHeld ?_
 ·(intro W hW;(try dsimp only at hW);have c1:=(X1.out.next hW).c1;go_simp)
 try simp only [Act.put,List.setIfInBounds_toArray,List.set_cons_zero,List.set_cons_succ]
 refine take2 rfl (i:=6) (v:=.tuple #[.agg #[.string xo,.string xn,.int .i64 (xk:Nat),.int .i64 xN,.int .i64 (xp:Nat),.slice sa sm sc],.bool tb]) (d:=36) rfl rfl (by kernel_rfl) (by kernel_rfl) (by kernel_rfl) (fun _ _ _ h=>h) (Or.inl ⟨by rfl,?_⟩) hHeld ?_
 ·(intro W hW;(try dsimp only at hW);have c1:=LK.out W (hW.block b1 (by have:=S1.out.pl;have:=S1.out.lt;omega));go_simp)
 try simp only [Act.put,List.setIfInBounds_toArray,List.set_cons_zero,List.set_cons_succ]
 refine take2 rfl (i:=7) (v:=.tuple #[.agg #[.string xo,.string xn,.int .i64 (xk:Nat),.int .i64 xN,.int .i64 (xp:Nat),.slice sa sm sc],.bool tb]) (d:=29) rfl rfl (by kernel_rfl) (by kernel_rfl) (by kernel_rfl) (fun _ _ _ h=>h) (Or.inl ⟨by rfl,?_⟩) hHeld ?_
 ·(intro W hW;(try dsimp only at hW);go_simp)
 try simp only [Act.put,List.setIfInBounds_toArray,List.set_cons_zero,List.set_cons_succ]
 refine take2 rfl (i:=8) (v:=.agg #[.string xo,.string xn,.int .i64 (xk:Nat),.int .i64 xN,.int .i64 (xp:Nat),.slice sa sm sc]) (d:=37) rfl rfl (by kernel_rfl) (by kernel_rfl) (by kernel_rfl) (fun _ _ _ h=>h) (Or.inl ⟨by rfl,?_⟩) hHeld ?_
 ·(intro W hW;(try dsimp only at hW);go_simp)
 try simp only [Act.put,List.setIfInBounds_toArray,List.set_cons_zero,List.set_cons_succ]
 refine take2 rfl (i:=9) (v:=.bool tb) (d:=38) rfl rfl (by kernel_rfl) (by kernel_rfl) (by kernel_rfl) (fun _ _ _ h=>h) (Or.inl ⟨by rfl,?_⟩) hHeld ?_
 ·(intro W hW;(try dsimp only at hW);go_simp)
 try simp only [Act.put,List.setIfInBounds_toArray,List.set_cons_zero,List.set_cons_succ]
 have BZ:=hid (show Below w1.heap.size w1 w1.drew from (Below.refl _ _).drew)
 generalize w1.drew=wz at *
 have BA:=hid (nextB BZ.out (show Below wz.heap.size wz (wz.alloc (.cells #[.string ⟨#[]⟩,.string ⟨#[]⟩,.int .i64 0,.int .i64 0,.int .i64 0,.slice none 0 0] 26)) from (Below.refl _ _).alloc (Nat.le_refl _) _))
 have HB:=hid (B6.new wz 26 (.string ⟨#[]⟩) (.string ⟨#[]⟩) (.int .i64 0) (.int .i64 0) (.int .i64 0) (.slice none 0 0))
 have SZ:=hid BZ.out.size
 refine wpAnyH_ready (rs:=[10]) (by kernel_rfl) (by simp) ?_
 refine cons2 rfl rfl (fun K9 hK=>?_)
 go_simp
 refine hK.out _ _ BA.out (fun hX=>?_)
 clear hK K9 hHeld
 have hHeld:=hX
 clear hX
 try simp only [Act.put,List.setIfInBounds_toArray,List.set_cons_zero,List.set_cons_succ]
 generalize World.alloc wz _=w2 at *
 have BS:=hid (Below.put6Y BA.out (q:=wz.heap.size) SZ.out (.string xo) (.string xn) (.int .i64 (xk:Nat)) (.int .i64 xN) (.int .i64 (xp:Nat)) (.slice sa sm sc))
 have HS:=hid (HB.out.sets (.string xo) (.string xn) (.int .i64 (xk:Nat)) (.int .i64 xN) (.int .i64 (xp:Nat)) (.slice sa sm sc))
 obtain ⟨h0,h1,h2,h3,h4,h5,hz⟩:=HB.out
 generalize wz.heap.size=r at *
 refine wpAnyH_ready (rs:=[11]) (by kernel_rfl) (by simp) ?_
 refine cons2 rfl rfl (fun K9 hK=>?_)
 go_simp
 refine hK.out _ _ BS.out (fun hX=>?_)
 clear hK K9 hHeld
 have hHeld:=hX
 clear hX h0 h1 h2 h3 h4 h5 hz
 try simp only [Act.put,List.setIfInBounds_toArray,List.set_cons_zero,List.set_cons_succ]
 generalize World.setCell _ ⟨r,5,none⟩ _=w3 at *
 refine take2 rfl (i:=12) (v:=.bool tb) (d:=8) rfl rfl (by kernel_rfl) (by kernel_rfl) (by kernel_rfl) (fun _ _ _ h=>h) (Or.inl ⟨by rfl,?_⟩) hHeld ?_
 ·(intro W hW;(try dsimp only at hW);go_simp)
 try simp only [Act.put,List.setIfInBounds_toArray,List.set_cons_zero,List.set_cons_succ]
 refine wpAnyH_done (by kernel_rfl) ?_ _
 obtain ⟨h0,h1,h2,h3,h4,h5,hz⟩:=HS.out
 clear h0 h1 h4 h5 hz
 have B3:=hid (nextB B1.out BS.out)
 cases tb with
 | false =>
  have DF:=hid (show onl false (xk:Nat)=D from DH.out)
  go_wp2_with (go_at_call 208;with_reducible refine Calls.mono (KO.out _ _ _) ?_;rintro e w2 ⟨rfl,rfl⟩)
  go_returns
  exact ⟨by rw [← DF.out];rfl,B3.out⟩
 | true =>
  by_cases z:a=xN
  ·have z1:(a==xN)=true:=by simpa using z
   have DF:=hid (show onl true (xk:Nat)=D from by rw [← DH.out,z1];rfl)
   clear z
   go_wp2_with (go_at_call 208;with_reducible refine Calls.mono (KO.out _ _ _) ?_;rintro e w2 ⟨rfl,rfl⟩)
   go_returns
   exact ⟨by rw [← DF.out];rfl,B3.out⟩
  ·have z1:(a==xN)=false:=beqI _ _ z
   have DF:=hid (show onl false (xk:Nat)=D from by rw [← DH.out,z1];rfl)
   clear z
   go_wp2_with (go_at_call 208;with_reducible refine Calls.mono (KO.out _ _ _) ?_;rintro e w2 ⟨rfl,rfl⟩)
   go_returns
   exact ⟨by rw [← DF.out];rfl,B3.out⟩
def Kz (w:World) (r:Nat) (l:List Int):Prop:=∀ i x,l[i]?=some x→w.cell? ⟨r,i,none⟩=some (.int .i64 x)
theorem Kz.keep {w w':World} {r:Nat} {l:List Int} (h:Kz w r l) (e:w'.heap[r]?=w.heap[r]?):Kz w' r l:=fun i x hx=>(World.cell?_of_block (a:=⟨r,i,none⟩) e).trans (h i x hx)
theorem Kz.next {w w':World} {r:Nat} {x:Int} {l:List Int} (h:Kz w r (x :: l)) (k:Below w.heap.size w w'):Kz w' r (x :: l):=h.keep (k.block r (World.block_lt_of_cell? _ _ (h 0 x rfl)))
set_option maxRecDepth 100000 in
set_option maxHeartbeats 4000000 in
theorem node_lit {w:World} {b0 b1 b2 b3 b4 p:Nat} {ks:List Tr} {be:List (ByteArray × Nat)} {loc:List ByteArray} {f:Nat} (h:Scp w b0 b1 b2 b3 b4 p ks be loc f) (nm:ByteArray) (kind:Nat) (n:Int) (pl:Nat) (v:Value) (hv:v.oneCell'=true) (ka:Option Addr) (kc:Nat) (h1:1≤kind) (h5:kind≤5) :
  Calls Tryz.prog 186 #[.pointer (some ⟨p,0,none⟩),.agg #[.string ⟨#[108,105,116]⟩,.string nm,.int .i64 (kind:Nat),.int .i64 n,.int .i64 (pl:Nat),v],.slice ka 0 kc] w fun e w'=>e=.returned (.int .i64 (((kind:Nat):Int)))∧Below w.heap.size w w':=by
 have B1:=hid (show Below w.heap.size w (w.alloc (.cells #[.string ⟨#[108,105,116]⟩,.string nm,.int .i64 (kind:Nat),.int .i64 n,.int .i64 (pl:Nat),v] 26)) from (Below.refl _ _).alloc (Nat.le_refl _) _)
 have K:=hid (ofNone_lit (h.next B1.out) nm kind n pl v hv h1 h5)
 clear h
 go_enter Tryz.func186,Tryz.ntmps186
 go_wp2_with (go_at_call 198;with_reducible refine Calls.mono K.out ?_;rintro e w2 ⟨rfl,b2⟩;have B2:=hid b2;clear b2)
 go_returns
 exact ⟨rfl,nextB B1.out B2.out⟩
set_option maxRecDepth 100000 in
set_option maxHeartbeats 4000000 in
theorem node_name {w:World} {b0 b1 b2 b3 b4 p:Nat} {ks:List Tr} {be:List (ByteArray × Nat)} {loc:List ByteArray} {f:Nat} (h:Scp w b0 b1 b2 b3 b4 p ks be loc f) (nm:ByteArray) (kind:Nat) (n:Int) (pl:Nat) (v:Value) (hv:v.oneCell'=true) (ka:Option Addr) (kc:Nat)  :
  Calls Tryz.prog 186 #[.pointer (some ⟨p,0,none⟩),.agg #[.string ⟨#[110,97,109,101]⟩,.string nm,.int .i64 (kind:Nat),.int .i64 n,.int .i64 (pl:Nat),v],.slice ka 0 kc] w fun e w'=>e=.returned (.int .i64 (namK ks be loc nm))∧Below w.heap.size w w':=by
 have B1:=hid (show Below w.heap.size w (w.alloc (.cells #[.string ⟨#[110,97,109,101]⟩,.string nm,.int .i64 (kind:Nat),.int .i64 n,.int .i64 (pl:Nat),v] 26)) from (Below.refl _ _).alloc (Nat.le_refl _) _)
 have K:=hid (ofNone_name (h.next B1.out) nm kind n pl v hv)
 generalize namK ks be loc nm=D at *
 clear h
 go_enter Tryz.func186,Tryz.ntmps186
 go_wp2_with (go_at_call 198;with_reducible refine Calls.mono K.out ?_;rintro e w2 ⟨rfl,b2⟩;have B2:=hid b2;clear b2)
 go_returns
 exact ⟨rfl,nextB B1.out B2.out⟩
set_option maxRecDepth 100000 in
set_option maxHeartbeats 4000000 in
theorem node_not {w:World} {b0 b1 b2 b3 b4 p:Nat} {ks:List Tr} {be:List (ByteArray × Nat)} {loc:List ByteArray} {f:Nat} (h:Scp w b0 b1 b2 b3 b4 p ks be loc f) (nm:ByteArray) (kind:Nat) (n:Int) (pl:Nat) (v:Value) (hv:v.oneCell'=true) (r kc:Nat) (a:Int) (hk:Kz w r [a]) :
  Calls Tryz.prog 186 #[.pointer (some ⟨p,0,none⟩),.agg #[.string ⟨#[110,111,116]⟩,.string nm,.int .i64 (kind:Nat),.int .i64 n,.int .i64 (pl:Nat),v],.slice (some ⟨r,0,none⟩) 1 kc] w fun e w'=>e=.returned (.int .i64 (onl (a==1) 1))∧Below w.heap.size w w':=by
 have B1:=hid (show Below w.heap.size w (w.alloc (.cells #[.string ⟨#[110,111,116]⟩,.string nm,.int .i64 (kind:Nat),.int .i64 n,.int .i64 (pl:Nat),v] 26)) from (Below.refl _ _).alloc (Nat.le_refl _) _)
 have X1:=hid (B6.new w 26 (.string ⟨#[110,111,116]⟩) (.string nm) (.int .i64 (kind:Nat)) (.int .i64 n) (.int .i64 (pl:Nat)) v)
 have S1:=hid (h.next B1.out)
 have HK:=hid (hk.next B1.out)
 obtain ⟨D,hD⟩:∃ D,onl (a==1) 1=D:=⟨_,rfl⟩
 have DH:=hid hD
 rw [hD]
 clear h hk hD
 go_enter Tryz.func186,Tryz.ntmps186
 go_upto_region 5 with fail
 generalize World.alloc w _=w1 at *
 refine wp_region_held_drew (S:=fun W=>Below w1.heap.size w1 W) (by kernel_rfl) (Below.refl _ _).drew (fun hHeld=>?_)
 refine take2 rfl (i:=0) (v:=.pointer (some ⟨p,0,none⟩)) (d:=16) rfl rfl (by kernel_rfl) (by kernel_rfl) (by kernel_rfl) (fun _ _ _ h=>h) (Or.inl ⟨by rfl,?_⟩) hHeld ?_
 ·(intro W hW;(try dsimp only at hW);go_simp)
 try simp only [Act.put,List.setIfInBounds_toArray,List.set_cons_zero,List.set_cons_succ]
 refine take2 rfl (i:=1) (v:=.agg #[.string ⟨#[110,111,116]⟩,.string nm,.int .i64 (kind:Nat),.int .i64 n,.int .i64 (pl:Nat),v]) (d:=17) rfl rfl (by kernel_rfl) (by kernel_rfl) (by kernel_rfl) (fun _ _ _ h=>h) (Or.inl ⟨by rfl,?_⟩) hHeld ?_
 ·(intro W hW;(try dsimp only at hW);obtain ⟨x0,x1,x2,x3,x4,x5,xz⟩:=X1.out.next hW;go_simp)
 try simp only [Act.put,List.setIfInBounds_toArray,List.set_cons_zero,List.set_cons_succ]
 refine take2 rfl (i:=2) (v:=.slice (some ⟨r,0,none⟩) 1 kc) (d:=18) rfl rfl (by kernel_rfl) (by kernel_rfl) (by kernel_rfl) (fun _ _ _ h=>h) (Or.inl ⟨by rfl,?_⟩) hHeld ?_
 ·(intro W hW;(try dsimp only at hW);go_simp)
 try simp only [Act.put,List.setIfInBounds_toArray,List.set_cons_zero,List.set_cons_succ]
 refine take2 rfl (i:=3) (v:=.pointer (some ⟨r,0,none⟩)) (d:=19) rfl rfl (by kernel_rfl) (by kernel_rfl) (by kernel_rfl) (fun _ _ _ h=>h) (Or.inl ⟨by rfl,?_⟩) hHeld ?_
 ·(intro W hW;(try dsimp only at hW);go_simp)
 try simp only [Act.put,List.setIfInBounds_toArray,List.set_cons_zero,List.set_cons_succ]
 refine take2 rfl (i:=4) (v:=.int .i64 a) (d:=20) rfl rfl (by kernel_rfl) (by kernel_rfl) (by kernel_rfl) (fun _ _ _ h=>h) (Or.inl ⟨by rfl,?_⟩) hHeld ?_
 ·(intro W hW;(try dsimp only at hW);have c0:=HK.out.next hW 0 a rfl;go_simp)
 try simp only [Act.put,List.setIfInBounds_toArray,List.set_cons_zero,List.set_cons_succ]
 have BZ:=hid (show Below w1.heap.size w1 w1.drew from (Below.refl _ _).drew)
 have K:=hid (ofOne_not p nm kind n pl v hv a w1.drew)
 generalize w1.drew=wz at *
 refine wpAnyH_ready (rs:=[5]) (by kernel_rfl) (by simp) ?_
 refine cons2 rfl rfl (fun K9 hK=>?_)
 go_simp
 refine Calls.mono K.out ?_
 rintro e w2 ⟨rfl,b2⟩
 have B2:=hid (nextB BZ.out b2)
 clear b2
 go_wp2_with fail
 refine hK.out _ _ B2.out (fun hX=>?_)
 clear hK K9 hHeld
 have hHeld:=hX
 clear hX
 try simp only [Act.put,List.setIfInBounds_toArray,List.set_cons_zero,List.set_cons_succ]
 refine take2 rfl (i:=6) (v:=.int .i64 (onl (a==1) 1)) (d:=6) rfl rfl (by kernel_rfl) (by kernel_rfl) (by kernel_rfl) (fun _ _ _ h=>h) (Or.inl ⟨by rfl,?_⟩) hHeld ?_
 ·(intro W hW;(try dsimp only at hW);go_simp)
 try simp only [Act.put,List.setIfInBounds_toArray,List.set_cons_zero,List.set_cons_succ]
 refine wpAnyH_done (by kernel_rfl) ?_ _
 go_wp2_with fail
 go_returns
 exact ⟨by rw [← DH.out];rfl,nextB B1.out B2.out⟩
set_option maxRecDepth 100000 in
set_option maxHeartbeats 4000000 in
theorem node_len {w:World} {b0 b1 b2 b3 b4 p:Nat} {ks:List Tr} {be:List (ByteArray × Nat)} {loc:List ByteArray} {f:Nat} (h:Scp w b0 b1 b2 b3 b4 p ks be loc f) (nm:ByteArray) (kind:Nat) (n:Int) (pl:Nat) (v:Value) (hv:v.oneCell'=true) (r kc:Nat) (a:Int) (hk:Kz w r [a]) :
  Calls Tryz.prog 186 #[.pointer (some ⟨p,0,none⟩),.agg #[.string ⟨#[108,101,110]⟩,.string nm,.int .i64 (kind:Nat),.int .i64 n,.int .i64 (pl:Nat),v],.slice (some ⟨r,0,none⟩) 1 kc] w fun e w'=>e=.returned (.int .i64 (onl (a==6) 2))∧Below w.heap.size w w':=by
 have B1:=hid (show Below w.heap.size w (w.alloc (.cells #[.string ⟨#[108,101,110]⟩,.string nm,.int .i64 (kind:Nat),.int .i64 n,.int .i64 (pl:Nat),v] 26)) from (Below.refl _ _).alloc (Nat.le_refl _) _)
 have X1:=hid (B6.new w 26 (.string ⟨#[108,101,110]⟩) (.string nm) (.int .i64 (kind:Nat)) (.int .i64 n) (.int .i64 (pl:Nat)) v)
 have S1:=hid (h.next B1.out)
 have HK:=hid (hk.next B1.out)
 obtain ⟨D,hD⟩:∃ D,onl (a==6) 2=D:=⟨_,rfl⟩
 have DH:=hid hD
 rw [hD]
 clear h hk hD
 go_enter Tryz.func186,Tryz.ntmps186
 go_upto_region 5 with fail
 generalize World.alloc w _=w1 at *
 refine wp_region_held_drew (S:=fun W=>Below w1.heap.size w1 W) (by kernel_rfl) (Below.refl _ _).drew (fun hHeld=>?_)
 refine take2 rfl (i:=0) (v:=.pointer (some ⟨p,0,none⟩)) (d:=16) rfl rfl (by kernel_rfl) (by kernel_rfl) (by kernel_rfl) (fun _ _ _ h=>h) (Or.inl ⟨by rfl,?_⟩) hHeld ?_
 ·(intro W hW;(try dsimp only at hW);go_simp)
 try simp only [Act.put,List.setIfInBounds_toArray,List.set_cons_zero,List.set_cons_succ]
 refine take2 rfl (i:=1) (v:=.agg #[.string ⟨#[108,101,110]⟩,.string nm,.int .i64 (kind:Nat),.int .i64 n,.int .i64 (pl:Nat),v]) (d:=17) rfl rfl (by kernel_rfl) (by kernel_rfl) (by kernel_rfl) (fun _ _ _ h=>h) (Or.inl ⟨by rfl,?_⟩) hHeld ?_
 ·(intro W hW;(try dsimp only at hW);obtain ⟨x0,x1,x2,x3,x4,x5,xz⟩:=X1.out.next hW;go_simp)
 try simp only [Act.put,List.setIfInBounds_toArray,List.set_cons_zero,List.set_cons_succ]
 refine take2 rfl (i:=2) (v:=.slice (some ⟨r,0,none⟩) 1 kc) (d:=18) rfl rfl (by kernel_rfl) (by kernel_rfl) (by kernel_rfl) (fun _ _ _ h=>h) (Or.inl ⟨by rfl,?_⟩) hHeld ?_
 ·(intro W hW;(try dsimp only at hW);go_simp)
 try simp only [Act.put,List.setIfInBounds_toArray,List.set_cons_zero,List.set_cons_succ]
 refine take2 rfl (i:=3) (v:=.pointer (some ⟨r,0,none⟩)) (d:=19) rfl rfl (by kernel_rfl) (by kernel_rfl) (by kernel_rfl) (fun _ _ _ h=>h) (Or.inl ⟨by rfl,?_⟩) hHeld ?_
 ·(intro W hW;(try dsimp only at hW);go_simp)
 try simp only [Act.put,List.setIfInBounds_toArray,List.set_cons_zero,List.set_cons_succ]
 refine take2 rfl (i:=4) (v:=.int .i64 a) (d:=20) rfl rfl (by kernel_rfl) (by kernel_rfl) (by kernel_rfl) (fun _ _ _ h=>h) (Or.inl ⟨by rfl,?_⟩) hHeld ?_
 ·(intro W hW;(try dsimp only at hW);have c0:=HK.out.next hW 0 a rfl;go_simp)
 try simp only [Act.put,List.setIfInBounds_toArray,List.set_cons_zero,List.set_cons_succ]
 have BZ:=hid (show Below w1.heap.size w1 w1.drew from (Below.refl _ _).drew)
 have K:=hid (ofOne_len p nm kind n pl v hv a w1.drew)
 generalize w1.drew=wz at *
 refine wpAnyH_ready (rs:=[5]) (by kernel_rfl) (by simp) ?_
 refine cons2 rfl rfl (fun K9 hK=>?_)
 go_simp
 refine Calls.mono K.out ?_
 rintro e w2 ⟨rfl,b2⟩
 have B2:=hid (nextB BZ.out b2)
 clear b2
 go_wp2_with fail
 refine hK.out _ _ B2.out (fun hX=>?_)
 clear hK K9 hHeld
 have hHeld:=hX
 clear hX
 try simp only [Act.put,List.setIfInBounds_toArray,List.set_cons_zero,List.set_cons_succ]
 refine take2 rfl (i:=6) (v:=.int .i64 (onl (a==6) 2)) (d:=6) rfl rfl (by kernel_rfl) (by kernel_rfl) (by kernel_rfl) (fun _ _ _ h=>h) (Or.inl ⟨by rfl,?_⟩) hHeld ?_
 ·(intro W hW;(try dsimp only at hW);go_simp)
 try simp only [Act.put,List.setIfInBounds_toArray,List.set_cons_zero,List.set_cons_succ]
 refine wpAnyH_done (by kernel_rfl) ?_ _
 go_wp2_with fail
 go_returns
 exact ⟨by rw [← DH.out];rfl,nextB B1.out B2.out⟩
set_option maxRecDepth 100000 in
set_option maxHeartbeats 4000000 in
theorem node_neg {w:World} {b0 b1 b2 b3 b4 p:Nat} {ks:List Tr} {be:List (ByteArray × Nat)} {loc:List ByteArray} {f:Nat} (h:Scp w b0 b1 b2 b3 b4 p ks be loc f) (nm:ByteArray) (kind:Nat) (n:Int) (pl:Nat) (v:Value) (hv:v.oneCell'=true) (r kc:Nat) (a:Int) (hk:Kz w r [a]) :
  Calls Tryz.prog 186 #[.pointer (some ⟨p,0,none⟩),.agg #[.string ⟨#[110,101,103]⟩,.string nm,.int .i64 (kind:Nat),.int .i64 n,.int .i64 (pl:Nat),v],.slice (some ⟨r,0,none⟩) 1 kc] w fun e w'=>e=.returned (.int .i64 (onl (amt a) a))∧Below w.heap.size w w':=by
 have B1:=hid (show Below w.heap.size w (w.alloc (.cells #[.string ⟨#[110,101,103]⟩,.string nm,.int .i64 (kind:Nat),.int .i64 n,.int .i64 (pl:Nat),v] 26)) from (Below.refl _ _).alloc (Nat.le_refl _) _)
 have X1:=hid (B6.new w 26 (.string ⟨#[110,101,103]⟩) (.string nm) (.int .i64 (kind:Nat)) (.int .i64 n) (.int .i64 (pl:Nat)) v)
 have S1:=hid (h.next B1.out)
 have HK:=hid (hk.next B1.out)
 obtain ⟨D,hD⟩:∃ D,onl (amt a) a=D:=⟨_,rfl⟩
 have DH:=hid hD
 rw [hD]
 clear h hk hD
 go_enter Tryz.func186,Tryz.ntmps186
 go_upto_region 5 with fail
 generalize World.alloc w _=w1 at *
 refine wp_region_held_drew (S:=fun W=>Below w1.heap.size w1 W) (by kernel_rfl) (Below.refl _ _).drew (fun hHeld=>?_)
 refine take2 rfl (i:=0) (v:=.pointer (some ⟨p,0,none⟩)) (d:=16) rfl rfl (by kernel_rfl) (by kernel_rfl) (by kernel_rfl) (fun _ _ _ h=>h) (Or.inl ⟨by rfl,?_⟩) hHeld ?_
 ·(intro W hW;(try dsimp only at hW);go_simp)
 try simp only [Act.put,List.setIfInBounds_toArray,List.set_cons_zero,List.set_cons_succ]
 refine take2 rfl (i:=1) (v:=.agg #[.string ⟨#[110,101,103]⟩,.string nm,.int .i64 (kind:Nat),.int .i64 n,.int .i64 (pl:Nat),v]) (d:=17) rfl rfl (by kernel_rfl) (by kernel_rfl) (by kernel_rfl) (fun _ _ _ h=>h) (Or.inl ⟨by rfl,?_⟩) hHeld ?_
 ·(intro W hW;(try dsimp only at hW);obtain ⟨x0,x1,x2,x3,x4,x5,xz⟩:=X1.out.next hW;go_simp)
 try simp only [Act.put,List.setIfInBounds_toArray,List.set_cons_zero,List.set_cons_succ]
 refine take2 rfl (i:=2) (v:=.slice (some ⟨r,0,none⟩) 1 kc) (d:=18) rfl rfl (by kernel_rfl) (by kernel_rfl) (by kernel_rfl) (fun _ _ _ h=>h) (Or.inl ⟨by rfl,?_⟩) hHeld ?_
 ·(intro W hW;(try dsimp only at hW);go_simp)
 try simp only [Act.put,List.setIfInBounds_toArray,List.set_cons_zero,List.set_cons_succ]
 refine take2 rfl (i:=3) (v:=.pointer (some ⟨r,0,none⟩)) (d:=19) rfl rfl (by kernel_rfl) (by kernel_rfl) (by kernel_rfl) (fun _ _ _ h=>h) (Or.inl ⟨by rfl,?_⟩) hHeld ?_
 ·(intro W hW;(try dsimp only at hW);go_simp)
 try simp only [Act.put,List.setIfInBounds_toArray,List.set_cons_zero,List.set_cons_succ]
 refine take2 rfl (i:=4) (v:=.int .i64 a) (d:=20) rfl rfl (by kernel_rfl) (by kernel_rfl) (by kernel_rfl) (fun _ _ _ h=>h) (Or.inl ⟨by rfl,?_⟩) hHeld ?_
 ·(intro W hW;(try dsimp only at hW);have c0:=HK.out.next hW 0 a rfl;go_simp)
 try simp only [Act.put,List.setIfInBounds_toArray,List.set_cons_zero,List.set_cons_succ]
 have BZ:=hid (show Below w1.heap.size w1 w1.drew from (Below.refl _ _).drew)
 have K:=hid (ofOne_neg p nm kind n pl v hv a w1.drew)
 generalize w1.drew=wz at *
 refine wpAnyH_ready (rs:=[5]) (by kernel_rfl) (by simp) ?_
 refine cons2 rfl rfl (fun K9 hK=>?_)
 go_simp
 refine Calls.mono K.out ?_
 rintro e w2 ⟨rfl,b2⟩
 have B2:=hid (nextB BZ.out b2)
 clear b2
 go_wp2_with fail
 refine hK.out _ _ B2.out (fun hX=>?_)
 clear hK K9 hHeld
 have hHeld:=hX
 clear hX
 try simp only [Act.put,List.setIfInBounds_toArray,List.set_cons_zero,List.set_cons_succ]
 refine take2 rfl (i:=6) (v:=.int .i64 (onl (amt a) a)) (d:=6) rfl rfl (by kernel_rfl) (by kernel_rfl) (by kernel_rfl) (fun _ _ _ h=>h) (Or.inl ⟨by rfl,?_⟩) hHeld ?_
 ·(intro W hW;(try dsimp only at hW);go_simp)
 try simp only [Act.put,List.setIfInBounds_toArray,List.set_cons_zero,List.set_cons_succ]
 refine wpAnyH_done (by kernel_rfl) ?_ _
 go_wp2_with fail
 go_returns
 exact ⟨by rw [← DH.out];rfl,nextB B1.out B2.out⟩
set_option maxRecDepth 100000 in
set_option maxHeartbeats 4000000 in
theorem node_at {w:World} {b0 b1 b2 b3 b4 p:Nat} {ks:List Tr} {be:List (ByteArray × Nat)} {loc:List ByteArray} {f:Nat} (h:Scp w b0 b1 b2 b3 b4 p ks be loc f) (nm:ByteArray) (kind:Nat) (n:Int) (pl:Nat) (v:Value) (hv:v.oneCell'=true) (r kc:Nat) (a:Int) (hk:Kz w r [a]) :
  Calls Tryz.prog 186 #[.pointer (some ⟨p,0,none⟩),.agg #[.string ⟨#[97,116]⟩,.string nm,.int .i64 (kind:Nat),.int .i64 n,.int .i64 (pl:Nat),v],.slice (some ⟨r,0,none⟩) 1 kc] w fun e w'=>e=.returned (.int .i64 (tabV ks nm a))∧Below w.heap.size w w':=by
 have B1:=hid (show Below w.heap.size w (w.alloc (.cells #[.string ⟨#[97,116]⟩,.string nm,.int .i64 (kind:Nat),.int .i64 n,.int .i64 (pl:Nat),v] 26)) from (Below.refl _ _).alloc (Nat.le_refl _) _)
 have X1:=hid (B6.new w 26 (.string ⟨#[97,116]⟩) (.string nm) (.int .i64 (kind:Nat)) (.int .i64 n) (.int .i64 (pl:Nat)) v)
 have S1:=hid (h.next B1.out)
 have HK:=hid (hk.next B1.out)
 obtain ⟨D,hD⟩:∃ D,tabV ks nm a=D:=⟨_,rfl⟩
 have DH:=hid hD
 rw [hD]
 clear h hk hD
 go_enter Tryz.func186,Tryz.ntmps186
 go_upto_region 5 with fail
 generalize World.alloc w _=w1 at *
 refine wp_region_held_drew (S:=fun W=>Below w1.heap.size w1 W) (by kernel_rfl) (Below.refl _ _).drew (fun hHeld=>?_)
 refine take2 rfl (i:=0) (v:=.pointer (some ⟨p,0,none⟩)) (d:=16) rfl rfl (by kernel_rfl) (by kernel_rfl) (by kernel_rfl) (fun _ _ _ h=>h) (Or.inl ⟨by rfl,?_⟩) hHeld ?_
 ·(intro W hW;(try dsimp only at hW);go_simp)
 try simp only [Act.put,List.setIfInBounds_toArray,List.set_cons_zero,List.set_cons_succ]
 refine take2 rfl (i:=1) (v:=.agg #[.string ⟨#[97,116]⟩,.string nm,.int .i64 (kind:Nat),.int .i64 n,.int .i64 (pl:Nat),v]) (d:=17) rfl rfl (by kernel_rfl) (by kernel_rfl) (by kernel_rfl) (fun _ _ _ h=>h) (Or.inl ⟨by rfl,?_⟩) hHeld ?_
 ·(intro W hW;(try dsimp only at hW);obtain ⟨x0,x1,x2,x3,x4,x5,xz⟩:=X1.out.next hW;go_simp)
 try simp only [Act.put,List.setIfInBounds_toArray,List.set_cons_zero,List.set_cons_succ]
 refine take2 rfl (i:=2) (v:=.slice (some ⟨r,0,none⟩) 1 kc) (d:=18) rfl rfl (by kernel_rfl) (by kernel_rfl) (by kernel_rfl) (fun _ _ _ h=>h) (Or.inl ⟨by rfl,?_⟩) hHeld ?_
 ·(intro W hW;(try dsimp only at hW);go_simp)
 try simp only [Act.put,List.setIfInBounds_toArray,List.set_cons_zero,List.set_cons_succ]
 refine take2 rfl (i:=3) (v:=.pointer (some ⟨r,0,none⟩)) (d:=19) rfl rfl (by kernel_rfl) (by kernel_rfl) (by kernel_rfl) (fun _ _ _ h=>h) (Or.inl ⟨by rfl,?_⟩) hHeld ?_
 ·(intro W hW;(try dsimp only at hW);go_simp)
 try simp only [Act.put,List.setIfInBounds_toArray,List.set_cons_zero,List.set_cons_succ]
 refine take2 rfl (i:=4) (v:=.int .i64 a) (d:=20) rfl rfl (by kernel_rfl) (by kernel_rfl) (by kernel_rfl) (fun _ _ _ h=>h) (Or.inl ⟨by rfl,?_⟩) hHeld ?_
 ·(intro W hW;(try dsimp only at hW);have c0:=HK.out.next hW 0 a rfl;go_simp)
 try simp only [Act.put,List.setIfInBounds_toArray,List.set_cons_zero,List.set_cons_succ]
 have BZ:=hid (show Below w1.heap.size w1 w1.drew from (Below.refl _ _).drew)
 have K:=hid (ofOne_at (S1.out.next BZ.out) nm kind n pl v hv a)
 generalize w1.drew=wz at *
 refine wpAnyH_ready (rs:=[5]) (by kernel_rfl) (by simp) ?_
 refine cons2 rfl rfl (fun K9 hK=>?_)
 go_simp
 refine Calls.mono K.out ?_
 rintro e w2 ⟨rfl,b2⟩
 have B2:=hid (nextB BZ.out b2)
 clear b2
 go_wp2_with fail
 refine hK.out _ _ B2.out (fun hX=>?_)
 clear hK K9 hHeld
 have hHeld:=hX
 clear hX
 try simp only [Act.put,List.setIfInBounds_toArray,List.set_cons_zero,List.set_cons_succ]
 refine take2 rfl (i:=6) (v:=.int .i64 (tabV ks nm a)) (d:=6) rfl rfl (by kernel_rfl) (by kernel_rfl) (by kernel_rfl) (fun _ _ _ h=>h) (Or.inl ⟨by rfl,?_⟩) hHeld ?_
 ·(intro W hW;(try dsimp only at hW);go_simp)
 try simp only [Act.put,List.setIfInBounds_toArray,List.set_cons_zero,List.set_cons_succ]
 refine wpAnyH_done (by kernel_rfl) ?_ _
 go_wp2_with fail
 go_returns
 exact ⟨by rw [← DH.out];rfl,nextB B1.out B2.out⟩
set_option maxRecDepth 100000 in
set_option maxHeartbeats 4000000 in
theorem node_sum {w:World} {b0 b1 b2 b3 b4 p:Nat} {ks:List Tr} {be:List (ByteArray × Nat)} {loc:List ByteArray} {f:Nat} (h:Scp w b0 b1 b2 b3 b4 p ks be loc f) (nm:ByteArray) (kind:Nat) (n:Int) (pl:Nat) (v:Value) (hv:v.oneCell'=true) (r kc:Nat) (a b:Int) (hk:Kz w r [a,b]) :
  Calls Tryz.prog 186 #[.pointer (some ⟨p,0,none⟩),.agg #[.string ⟨#[115,117,109]⟩,.string nm,.int .i64 (kind:Nat),.int .i64 n,.int .i64 (pl:Nat),v],.slice (some ⟨r,0,none⟩) 2 kc] w fun e w'=>e=.returned (.int .i64 (sumK ks be loc nm a b))∧Below w.heap.size w w':=by
 have B1:=hid (show Below w.heap.size w (w.alloc (.cells #[.string ⟨#[115,117,109]⟩,.string nm,.int .i64 (kind:Nat),.int .i64 n,.int .i64 (pl:Nat),v] 26)) from (Below.refl _ _).alloc (Nat.le_refl _) _)
 have X1:=hid (B6.new w 26 (.string ⟨#[115,117,109]⟩) (.string nm) (.int .i64 (kind:Nat)) (.int .i64 n) (.int .i64 (pl:Nat)) v)
 have S1:=hid (h.next B1.out)
 have HK:=hid (hk.next B1.out)
 generalize hD:sumK ks be loc nm a b=D
 have DH:=hid hD
 clear h hk hD
 go_enter Tryz.func186,Tryz.ntmps186
 go_upto_region 8 with fail
 generalize World.alloc w _=w1 at *
 refine wp_region_held_drew (S:=fun W=>Below w1.heap.size w1 W) (by kernel_rfl) (Below.refl _ _).drew (fun hHeld=>?_)
 refine take2 rfl (i:=0) (v:=.pointer (some ⟨p,0,none⟩)) (d:=27) rfl rfl (by kernel_rfl) (by kernel_rfl) (by kernel_rfl) (fun _ _ _ h=>h) (Or.inl ⟨by rfl,?_⟩) hHeld ?_
 ·(intro W hW;(try dsimp only at hW);go_simp)
 try simp only [Act.put,List.setIfInBounds_toArray,List.set_cons_zero,List.set_cons_succ]
 refine take2 rfl (i:=1) (v:=.pointer (some ⟨w.heap.size,1,none⟩)) (d:=28) rfl rfl (by kernel_rfl) (by kernel_rfl) (by kernel_rfl) (fun _ _ _ h=>h) (Or.inl ⟨by rfl,?_⟩) hHeld ?_
 ·(intro W hW;(try dsimp only at hW);go_simp)
 try simp only [Act.put,List.setIfInBounds_toArray,List.set_cons_zero,List.set_cons_succ]
 refine take2 rfl (i:=2) (v:=.string nm) (d:=29) rfl rfl (by kernel_rfl) (by kernel_rfl) (by kernel_rfl) (fun _ _ _ h=>h) (Or.inl ⟨by rfl,?_⟩) hHeld ?_
 ·(intro W hW;(try dsimp only at hW);have c1:=(X1.out.next hW).c1;go_simp)
 try simp only [Act.put,List.setIfInBounds_toArray,List.set_cons_zero,List.set_cons_succ]
 refine take2 rfl (i:=3) (v:=.slice (some ⟨r,0,none⟩) 2 kc) (d:=30) rfl rfl (by kernel_rfl) (by kernel_rfl) (by kernel_rfl) (fun _ _ _ h=>h) (Or.inl ⟨by rfl,?_⟩) hHeld ?_
 ·(intro W hW;(try dsimp only at hW);go_simp)
 try simp only [Act.put,List.setIfInBounds_toArray,List.set_cons_zero,List.set_cons_succ]
 refine take2 rfl (i:=4) (v:=.pointer (some ⟨r,0,none⟩)) (d:=31) rfl rfl (by kernel_rfl) (by kernel_rfl) (by kernel_rfl) (fun _ _ _ h=>h) (Or.inl ⟨by rfl,?_⟩) hHeld ?_
 ·(intro W hW;(try dsimp only at hW);go_simp)
 try simp only [Act.put,List.setIfInBounds_toArray,List.set_cons_zero,List.set_cons_succ]
 refine take2 rfl (i:=5) (v:=.int .i64 a) (d:=32) rfl rfl (by kernel_rfl) (by kernel_rfl) (by kernel_rfl) (fun _ _ _ h=>h) (Or.inl ⟨by rfl,?_⟩) hHeld ?_
 ·(intro W hW;(try dsimp only at hW);have c0:=HK.out.next hW 0 a rfl;go_simp)
 try simp only [Act.put,List.setIfInBounds_toArray,List.set_cons_zero,List.set_cons_succ]
 refine take2 rfl (i:=6) (v:=.slice (some ⟨r,0,none⟩) 2 kc) (d:=33) rfl rfl (by kernel_rfl) (by kernel_rfl) (by kernel_rfl) (fun _ _ _ h=>h) (Or.inl ⟨by rfl,?_⟩) hHeld ?_
 ·(intro W hW;(try dsimp only at hW);go_simp)
 try simp only [Act.put,List.setIfInBounds_toArray,List.set_cons_zero,List.set_cons_succ]
 refine take2 rfl (i:=7) (v:=.pointer (some ⟨r,1,none⟩)) (d:=34) rfl rfl (by kernel_rfl) (by kernel_rfl) (by kernel_rfl) (fun _ _ _ h=>h) (Or.inl ⟨by rfl,?_⟩) hHeld ?_
 ·(intro W hW;(try dsimp only at hW);go_simp)
 try simp only [Act.put,List.setIfInBounds_toArray,List.set_cons_zero,List.set_cons_succ]
 refine take2 rfl (i:=8) (v:=.int .i64 b) (d:=35) rfl rfl (by kernel_rfl) (by kernel_rfl) (by kernel_rfl) (fun _ _ _ h=>h) (Or.inl ⟨by rfl,?_⟩) hHeld ?_
 ·(intro W hW;(try dsimp only at hW);have c0:=HK.out.next hW 1 b rfl;go_simp)
 try simp only [Act.put,List.setIfInBounds_toArray,List.set_cons_zero,List.set_cons_succ]
 have BZ:=hid (show Below w1.heap.size w1 w1.drew from (Below.refl _ _).drew)
 have K:=hid (ofSum_any (S1.out.next BZ.out) nm a b)
 generalize w1.drew=wz at *
 refine wpAnyH_ready (rs:=[9]) (by kernel_rfl) (by simp) ?_
 refine cons2 rfl rfl (fun K9 hK=>?_)
 go_simp
 refine Calls.mono K.out ?_
 rintro e w2 ⟨rfl,rfl⟩
 have B2:=hid BZ.out
 go_wp2_with fail
 refine hK.out _ _ B2.out (fun hX=>?_)
 clear hK K9 hHeld
 have hHeld:=hX
 clear hX
 try simp only [Act.put,List.setIfInBounds_toArray,List.set_cons_zero,List.set_cons_succ]
 refine take2 rfl (i:=10) (v:=.int .i64 (sumK ks be loc nm a b)) (d:=6) rfl rfl (by kernel_rfl) (by kernel_rfl) (by kernel_rfl) (fun _ _ _ h=>h) (Or.inl ⟨by rfl,?_⟩) hHeld ?_
 ·(intro W hW;(try dsimp only at hW);go_simp)
 try simp only [Act.put,List.setIfInBounds_toArray,List.set_cons_zero,List.set_cons_succ]
 refine wpAnyH_done (by kernel_rfl) ?_ _
 go_wp2_with fail
 go_returns
 exact ⟨by rw [← DH.out];rfl,nextB B1.out B2.out⟩
set_option maxRecDepth 100000 in
set_option maxHeartbeats 4000000 in
theorem node_two (p:Nat) (op nm:ByteArray) (ho:op ∈ ops12∨op=sMin∨op=sMax) (kind:Nat) (n:Int) (pl:Nat) (v:Value) (hv:v.oneCell'=true) (r kc:Nat) (a b:Int) (w:World) (hT:TabM w) (hk:Kz w r [a,b]) :
  Calls Tryz.prog 186 #[.pointer (some ⟨p,0,none⟩),.agg #[.string op,.string nm,.int .i64 (kind:Nat),.int .i64 n,.int .i64 (pl:Nat),v],.slice (some ⟨r,0,none⟩) 2 kc] w fun e w'=>e=.returned (.int .i64 (binK op a b))∧Below w.heap.size w w':=by
 have B1:=hid (show Below w.heap.size w (w.alloc (.cells #[.string op,.string nm,.int .i64 (kind:Nat),.int .i64 n,.int .i64 (pl:Nat),v] 26)) from (Below.refl _ _).alloc (Nat.le_refl _) _)
 have X1:=hid (B6.new w 26 (.string op) (.string nm) (.int .i64 (kind:Nat)) (.int .i64 n) (.int .i64 (pl:Nat)) v)
 have T1:=hid (hT.next B1.out)
 have HK:=hid (hk.next B1.out)
 have HO:=hid ho
 have ns:(op.toList==[115,117,109])=false:=by
  rw [eqL]
  simp only [ops12,List.mem_cons,List.not_mem_nil,or_false] at ho
  rcases ho with (rfl | rfl | rfl | rfl | rfl | rfl | rfl | rfl | rfl | rfl | rfl | rfl) | rfl | rfl <;> rfl
 generalize hD:binK op a b=D
 have DH:=hid hD
 clear hT hk hD ho
 go_enter Tryz.func186,Tryz.ntmps186
 go_upto_region 9 with fail
 generalize World.alloc w _=w1 at *
 refine wp_region_held_drew (S:=fun W=>Below w1.heap.size w1 W) (by kernel_rfl) (Below.refl _ _).drew (fun hHeld=>?_)
 refine take2 rfl (i:=0) (v:=.pointer (some ⟨w.heap.size,0,none⟩)) (d:=37) rfl rfl (by kernel_rfl) (by kernel_rfl) (by kernel_rfl) (fun _ _ _ h=>h) (Or.inl ⟨by rfl,?_⟩) hHeld ?_
 ·(intro W hW;(try dsimp only at hW);go_simp)
 try simp only [Act.put,List.setIfInBounds_toArray,List.set_cons_zero,List.set_cons_succ]
 refine take2 rfl (i:=1) (v:=.string op) (d:=38) rfl rfl (by kernel_rfl) (by kernel_rfl) (by kernel_rfl) (fun _ _ _ h=>h) (Or.inl ⟨by rfl,?_⟩) hHeld ?_
 ·(intro W hW;(try dsimp only at hW);have c1:=(X1.out.next hW).c0;go_simp)
 try simp only [Act.put,List.setIfInBounds_toArray,List.set_cons_zero,List.set_cons_succ]
 refine take2 rfl (i:=2) (v:=.slice (some ⟨r,0,none⟩) 2 kc) (d:=39) rfl rfl (by kernel_rfl) (by kernel_rfl) (by kernel_rfl) (fun _ _ _ h=>h) (Or.inl ⟨by rfl,?_⟩) hHeld ?_
 ·(intro W hW;(try dsimp only at hW);go_simp)
 try simp only [Act.put,List.setIfInBounds_toArray,List.set_cons_zero,List.set_cons_succ]
 refine take2 rfl (i:=3) (v:=.pointer (some ⟨r,0,none⟩)) (d:=40) rfl rfl (by kernel_rfl) (by kernel_rfl) (by kernel_rfl) (fun _ _ _ h=>h) (Or.inl ⟨by rfl,?_⟩) hHeld ?_
 ·(intro W hW;(try dsimp only at hW);go_simp)
 try simp only [Act.put,List.setIfInBounds_toArray,List.set_cons_zero,List.set_cons_succ]
 refine take2 rfl (i:=4) (v:=.int .i64 a) (d:=41) rfl rfl (by kernel_rfl) (by kernel_rfl) (by kernel_rfl) (fun _ _ _ h=>h) (Or.inl ⟨by rfl,?_⟩) hHeld ?_
 ·(intro W hW;(try dsimp only at hW);have c0:=HK.out.next hW 0 a rfl;go_simp)
 try simp only [Act.put,List.setIfInBounds_toArray,List.set_cons_zero,List.set_cons_succ]
 refine take2 rfl (i:=5) (v:=.slice (some ⟨r,0,none⟩) 2 kc) (d:=42) rfl rfl (by kernel_rfl) (by kernel_rfl) (by kernel_rfl) (fun _ _ _ h=>h) (Or.inl ⟨by rfl,?_⟩) hHeld ?_
 ·(intro W hW;(try dsimp only at hW);go_simp)
 try simp only [Act.put,List.setIfInBounds_toArray,List.set_cons_zero,List.set_cons_succ]
 refine take2 rfl (i:=6) (v:=.pointer (some ⟨r,1,none⟩)) (d:=43) rfl rfl (by kernel_rfl) (by kernel_rfl) (by kernel_rfl) (fun _ _ _ h=>h) (Or.inl ⟨by rfl,?_⟩) hHeld ?_
 ·(intro W hW;(try dsimp only at hW);go_simp)
 try simp only [Act.put,List.setIfInBounds_toArray,List.set_cons_zero,List.set_cons_succ]
 refine take2 rfl (i:=7) (v:=.int .i64 b) (d:=44) rfl rfl (by kernel_rfl) (by kernel_rfl) (by kernel_rfl) (fun _ _ _ h=>h) (Or.inl ⟨by rfl,?_⟩) hHeld ?_
 ·(intro W hW;(try dsimp only at hW);have c0:=HK.out.next hW 1 b rfl;go_simp)
 try simp only [Act.put,List.setIfInBounds_toArray,List.set_cons_zero,List.set_cons_succ]
 have BZ:=hid (show Below w1.heap.size w1 w1.drew from (Below.refl _ _).drew)
 have K:=hid (ofTwo_any op HO.out a b w1.drew (T1.out.next BZ.out))
 generalize w1.drew=wz at *
 refine wpAnyH_ready (rs:=[8]) (by kernel_rfl) (by simp) ?_
 refine cons2 rfl rfl (fun K9 hK=>?_)
 go_simp
 refine Calls.mono K.out ?_
 rintro e w2 ⟨rfl,b2⟩
 have B2:=hid (nextB BZ.out b2)
 clear b2
 go_wp2_with fail
 refine hK.out _ _ B2.out (fun hX=>?_)
 clear hK K9 hHeld
 have hHeld:=hX
 clear hX
 try simp only [Act.put,List.setIfInBounds_toArray,List.set_cons_zero,List.set_cons_succ]
 refine take2 rfl (i:=9) (v:=.int .i64 (binK op a b)) (d:=6) rfl rfl (by kernel_rfl) (by kernel_rfl) (by kernel_rfl) (fun _ _ _ h=>h) (Or.inl ⟨by rfl,?_⟩) hHeld ?_
 ·(intro W hW;(try dsimp only at hW);go_simp)
 try simp only [Act.put,List.setIfInBounds_toArray,List.set_cons_zero,List.set_cons_succ]
 refine wpAnyH_done (by kernel_rfl) ?_ _
 go_wp2_with fail
 go_returns
 exact ⟨by rw [← DH.out];rfl,nextB B1.out B2.out⟩
set_option maxRecDepth 100000 in
set_option maxHeartbeats 4000000 in
theorem node_if (p:Nat) (nm:ByteArray) (kind:Nat) (n:Int) (pl:Nat) (v:Value) (hv:v.oneCell'=true) (r kc:Nat) (a b c:Int) (w:World) (hk:Kz w r [a,b,c]) :
  Calls Tryz.prog 186 #[.pointer (some ⟨p,0,none⟩),.agg #[.string ⟨#[105,102]⟩,.string nm,.int .i64 (kind:Nat),.int .i64 n,.int .i64 (pl:Nat),v],.slice (some ⟨r,0,none⟩) 3 kc] w fun e w'=>e=.returned (.int .i64 (onl ((a==1) && (b==c) && (b != 6)) b))∧Below w.heap.size w w':=by
 have B1:=hid (show Below w.heap.size w (w.alloc (.cells #[.string ⟨#[105,102]⟩,.string nm,.int .i64 (kind:Nat),.int .i64 n,.int .i64 (pl:Nat),v] 26)) from (Below.refl _ _).alloc (Nat.le_refl _) _)
 have X1:=hid (B6.new w 26 (.string ⟨#[105,102]⟩) (.string nm) (.int .i64 (kind:Nat)) (.int .i64 n) (.int .i64 (pl:Nat)) v)
 have HK:=hid (hk.next B1.out)
 generalize hD:onl ((a==1) && (b==c) && (b != 6)) b=D
 clear hk
 by_cases q1:a=1
 ·have z1:(a==1)=true:=by simpa using q1
  by_cases q2:b=c
  ·have z2:(b==c)=true:=by simpa using q2
   by_cases q3:b=6
   ·have z3:(b != 6)=false:=by simpa using q3
    have DH:=hid (show onl false b=D from by rw [← hD,z1,z2,z3];rfl)
    clear hD q1 q2 q3
    go_enter Tryz.func186,Tryz.ntmps186
    go_upto_region 11 with fail
    generalize World.alloc w _=w1 at *
    have BZ:=hid (show Below w1.heap.size w1 w1 from Below.refl _ _)
    obtain ⟨x0,x1,x2,x3,x4,x5,xz⟩:=X1.out
    have k0:=HK.out 0 a rfl
    have k1:=HK.out 1 b rfl
    have k2:=HK.out 2 c rfl
    clear x1 x2 x3 x4 x5 xz
    go_quiet (fail)
    have BQ:=hid (drewN_below w1 nq)
    go_wp2_with fail
    go_returns
    exact ⟨by rw [← DH.out];rfl,nextB B1.out BQ.out⟩
   ·have z3:(b != 6)=true:=by simpa using q3
    have DH:=hid (show onl true b=D from by rw [← hD,z1,z2,z3];rfl)
    clear hD q1 q2 q3
    go_enter Tryz.func186,Tryz.ntmps186
    go_upto_region 11 with fail
    generalize World.alloc w _=w1 at *
    have BZ:=hid (show Below w1.heap.size w1 w1 from Below.refl _ _)
    obtain ⟨x0,x1,x2,x3,x4,x5,xz⟩:=X1.out
    have k0:=HK.out 0 a rfl
    have k1:=HK.out 1 b rfl
    have k2:=HK.out 2 c rfl
    clear x1 x2 x3 x4 x5 xz
    go_quiet (fail)
    have BQ:=hid (drewN_below w1 nq)
    go_wp2_with fail
    go_returns
    exact ⟨by rw [← DH.out];rfl,nextB B1.out BQ.out⟩
  ·have z2:(b==c)=false:=beqI _ _ q2
   have DH:=hid (show onl false b=D from by rw [← hD,z1,z2];rfl)
   clear hD q1 q2
   go_enter Tryz.func186,Tryz.ntmps186
   go_upto_region 11 with fail
   generalize World.alloc w _=w1 at *
   have BZ:=hid (show Below w1.heap.size w1 w1 from Below.refl _ _)
   obtain ⟨x0,x1,x2,x3,x4,x5,xz⟩:=X1.out
   have k0:=HK.out 0 a rfl
   have k1:=HK.out 1 b rfl
   have k2:=HK.out 2 c rfl
   clear x1 x2 x3 x4 x5 xz
   go_quiet (fail)
   have BQ:=hid (drewN_below w1 nq)
   go_wp2_with fail
   go_returns
   exact ⟨by rw [← DH.out];rfl,nextB B1.out BQ.out⟩
 ·have z1:(a==1)=false:=beqI _ _ q1
  have DH:=hid (show onl false b=D from by rw [← hD,z1];rfl)
  clear hD q1
  go_enter Tryz.func186,Tryz.ntmps186
  go_upto_region 11 with fail
  generalize World.alloc w _=w1 at *
  have BZ:=hid (show Below w1.heap.size w1 w1 from Below.refl _ _)
  obtain ⟨x0,x1,x2,x3,x4,x5,xz⟩:=X1.out
  have k0:=HK.out 0 a rfl
  have k1:=HK.out 1 b rfl
  have k2:=HK.out 2 c rfl
  clear x1 x2 x3 x4 x5 xz
  go_quiet (fail)
  have BQ:=hid (drewN_below w1 nq)
  go_wp2_with fail
  go_returns
  exact ⟨by rw [← DH.out];rfl,nextB B1.out BQ.out⟩
structure Gt2 (w w':World) (b p:Nat):Prop where
 os:w'.os=w.os
 tape:w'.tape=w.tape
 output:w'.output=w.output
 size:w.heap.size≤w'.heap.size
 block:∀ i,i<w.heap.size→i≠b→i≠p→w'.heap[i]?=w.heap[i]?
theorem Gt2.refl (w:World) (b p:Nat):Gt2 w w b p:=⟨rfl,rfl,rfl,Nat.le_refl _,fun _ _ _ _=>rfl⟩
theorem Gt2.trans {a b c:World} {x p:Nat} (h:Gt2 a b x p) (k:Gt2 b c x p):Gt2 a c x p :=
 ⟨k.os.trans h.os,k.tape.trans h.tape,k.output.trans h.output,Nat.le_trans h.size k.size,fun i hi n m=>(k.block i (Nat.lt_of_lt_of_le hi h.size) n m).trans (h.block i hi n m)⟩
theorem Gt2.below {a b c:World} {x p:Nat} (h:Gt2 a b x p) (k:Below b.heap.size b c):Gt2 a c x p :=
 ⟨k.os.trans h.os,k.tape.trans h.tape,k.output.trans h.output,Nat.le_trans h.size k.size,fun i hi n m=>(k.block i (Nat.lt_of_lt_of_le hi h.size)).trans (h.block i hi n m)⟩
theorem Gt2.bel {a b c:World} {x p:Nat} (h:Gt2 a b x p) {B:Nat} (hB:a.heap.size≤B) (k:Below B b c):Gt2 a c x p :=
 ⟨k.os.trans h.os,k.tape.trans h.tape,k.output.trans h.output,Nat.le_trans h.size k.size,fun i hi n m=>(k.block i (by omega)).trans (h.block i hi n m)⟩
theorem Gt2.grown {a b c:World} {x p:Nat} (h:Gt2 a b x p) (k:b.grownBy c (some x)):Gt2 a c x p :=
 ⟨k.os.trans h.os,k.tape.trans h.tape,k.output.trans h.output,Nat.le_trans h.size k.size,fun i hi n m=>(k.block i (Nat.lt_of_lt_of_le hi h.size) (fun e=>n (by injection e))).trans (h.block i hi n m)⟩
theorem Gt2.set {a b:World} {x p i:Nat} (h:Gt2 a b x p) (u:Value):Gt2 a (b.setCell ⟨p,i,none⟩ u) x p :=
 ⟨h.os,h.tape,h.output,by simpa using h.size,fun k hk n m=>(Below.heap_setCell b ⟨p,i,none⟩ u k (fun e=>m e)).trans (h.block k hk n m)⟩
theorem Gt2.put {a b:World} {x p q i:Nat} (h:Gt2 a b x p) (hq:a.heap.size≤q) (u:Value):Gt2 a (b.setCell ⟨q,i,none⟩ u) x p:=h.bel (B:=a.heap.size) (Nat.le_refl _) ((Below.refl _ _).setCell (p:=⟨q,i,none⟩) hq u)
theorem cnt_cons (loc:List ByteArray) (nm j:ByteArray):cntK (nm :: loc) j=(if j=nm then 1 else 0)+cntK loc j:=by
 unfold cntK
 rw [List.countP_cons]
 have:(eqB nm j=true) ↔ j=nm:=⟨fun h=>(eqB_eqX h).symm,fun h=>by rw [h];unfold eqB;simp⟩
 by_cases c:j=nm
 ·rw [if_pos c,if_pos (this.2 c)];omega
 ·rw [if_neg c,if_neg (fun h=>c (this.1 h))];omega
theorem Scp.swap4 {w w':World} {b0 b1 b2 b3 b4 p:Nat} {ks:List Tr} {be:List (ByteArray × Nat)} {loc loc':List ByteArray} {f:Nat} (h:Scp w b0 b1 b2 b3 b4 p ks be loc f) (g:w.grownBy w' (some b4)) (m:∃ l,MapS w' b4 l∧∀ nm,(atM l nm).getD (.int .i64 0)=.int .i64 (cntK loc' nm:Nat)):Scp w' b0 b1 b2 b3 b4 p ks be loc' f:=by
 have lt:=h.lt
 have pl:=h.pl
 have hk:∀ x,x<w.heap.size→x≠b4→w'.heap[x]?=w.heap[x]?:=fun x hx n=>g.block x hx (fun e=>n (by injection e))
 have e:∀ i,w'.cell? ⟨p,i,none⟩=w.cell? ⟨p,i,none⟩:=fun i=>World.cell?_of_block (a:=⟨p,i,none⟩) (hk p pl (by omega))
 refine ⟨by rw [e];exact h.c0,by rw [e];exact h.c1,by rw [e];exact h.c2,by rw [e];exact h.c3,by rw [e];exact h.c4,by rw [e];exact h.c5,fun i=>by rw [World.frozen?_of_block (a:=⟨p,i,none⟩) (hk p pl (by omega))];exact h.fz i,?_,?_,?_,?_,m,lt⟩
 ·obtain ⟨l,a,b⟩:=h.m0;exact ⟨l,a.kept (hk b0 (by omega) (by omega)),b⟩
 ·obtain ⟨l,a,b⟩:=h.m1;exact ⟨l,a.kept (hk b1 (by omega) (by omega)),b⟩
 ·obtain ⟨l,a,b⟩:=h.m2;exact ⟨l,a.kept (hk b2 (by omega) (by omega)),b⟩
 ·obtain ⟨l,a,b⟩:=h.m3;exact ⟨l,a.kept (hk b3 (by omega) (by omega)),b⟩
theorem Scp.push {w:World} {b0 b1 b2 b3 b4 p:Nat} {ks:List Tr} {be:List (ByteArray × Nat)} {loc:List ByteArray} {f:Nat} (h:Scp w b0 b1 b2 b3 b4 p ks be loc f) (nm:ByteArray):∃ w',(Instr.mapUpdate 97 (.map (some b4)) (.string nm) (.int .i64 ((cntK loc nm:Int)+1))).run Tryz.prog w=.ok () w'∧Scp w' b0 b1 b2 b3 b4 p ks be (nm :: loc) f∧w.grownBy w' (some b4):=by
 obtain ⟨l,a,b⟩:=h.m4
 obtain ⟨w',r,m,g⟩:=storeM w b4 nm (.int .i64 ((cntK loc nm:Int)+1)) l a umI
 refine ⟨w',r,h.swap4 g ⟨_,m,fun j=>?_⟩,g⟩
 rw [at_set,cnt_cons]
 by_cases c:j=nm
 ·rw [if_pos c,if_pos c,c]
  simp [Int.add_comm]
 ·rw [if_neg c,if_neg c,b j]
  simp
theorem Scp.pop {w:World} {b0 b1 b2 b3 b4 p:Nat} {ks:List Tr} {be:List (ByteArray × Nat)} {loc:List ByteArray} {f:Nat} {nm:ByteArray} (h:Scp w b0 b1 b2 b3 b4 p ks be (nm :: loc) f):∃ w',(Instr.mapUpdate 97 (.map (some b4)) (.string nm) (.int .i64 ((cntK (nm :: loc) nm:Int) - 1))).run Tryz.prog w=.ok () w'∧Scp w' b0 b1 b2 b3 b4 p ks be loc f∧w.grownBy w' (some b4):=by
 obtain ⟨l,a,b⟩:=h.m4
 obtain ⟨w',r,m,g⟩:=storeM w b4 nm (.int .i64 ((cntK (nm :: loc) nm:Int) - 1)) l a umI
 refine ⟨w',r,h.swap4 g ⟨_,m,fun j=>?_⟩,g⟩
 rw [at_set]
 by_cases c:j=nm
 ·rw [if_pos c,c,cnt_cons,if_pos rfl]
  simp
  omega
 ·rw [if_neg c,b j,cnt_cons,if_neg c]
  simp
theorem Scp.flt {w:World} {b0 b1 b2 b3 b4 p:Nat} {ks:List Tr} {be:List (ByteArray × Nat)} {loc:List ByteArray} {f:Nat} (h:Scp w b0 b1 b2 b3 b4 p ks be loc f) (a:Nat):Scp (w.setCell ⟨p,5,none⟩ (.int .i64 (a:Nat))) b0 b1 b2 b3 b4 p ks be loc a:=by
 have lt:=h.lt
 have hk:∀ x,x≠p→(w.setCell ⟨p,5,none⟩ (.int .i64 (a:Nat))).heap[x]?=w.heap[x]?:=fun x n=>Below.heap_setCell w ⟨p,5,none⟩ _ x n
 refine ⟨(cell_ne (by omega)).trans h.c0,(cell_ne (by omega)).trans h.c1,(cell_ne (by omega)).trans h.c2,(cell_ne (by omega)).trans h.c3,(cell_ne (by omega)).trans h.c4,cell_eq h.c5,fun i=>by simpa using h.fz i,?_,?_,?_,?_,?_,lt⟩
 ·obtain ⟨l,a,b⟩:=h.m0;exact ⟨l,a.kept (hk b0 (by omega)),b⟩
 ·obtain ⟨l,a,b⟩:=h.m1;exact ⟨l,a.kept (hk b1 (by omega)),b⟩
 ·obtain ⟨l,a,b⟩:=h.m2;exact ⟨l,a.kept (hk b2 (by omega)),b⟩
 ·obtain ⟨l,a,b⟩:=h.m3;exact ⟨l,a.kept (hk b3 (by omega)),b⟩
 ·obtain ⟨l,a,b⟩:=h.m4;exact ⟨l,a.kept (hk b4 (by omega)),b⟩
theorem Scp.far {w:World} {b0 b1 b2 b3 b4 p:Nat} {ks:List Tr} {be:List (ByteArray × Nat)} {loc:List ByteArray} {f:Nat} (h:Scp w b0 b1 b2 b3 b4 p ks be loc f) {q i:Nat} (hq:p<q) (u:Value):Scp (w.setCell ⟨q,i,none⟩ u) b0 b1 b2 b3 b4 p ks be loc f :=
 h.keep fun g e=>Below.heap_setCell w ⟨q,i,none⟩ u g (by have:=h.lt;intro x;have x:g=q:=x;omega)
theorem TabM.gs {w w':World} {b p:Nat} (h:TabM w) (k:Gt2 w w' b p) (hb:3<b) (hp:3<p):TabM w':=h.keep k.size (k.block 3 h.1 (by omega) (by omega))
structure Kw (w:World) (r n:Nat) (l:List Int):Prop where
 at_:∀ j,j<n→w.cell? ⟨r,j,none⟩=some (.int .i64 (l.getD j 0))
 fz:∀ j,w.frozen? ⟨r,j,none⟩=false
 lt:r<w.heap.size
theorem Kw.keep {w w':World} {r n:Nat} {l:List Int} (h:Kw w r n l) (hs:w.heap.size≤w'.heap.size) (e:w'.heap[r]?=w.heap[r]?):Kw w' r n l :=
 ⟨fun j hj=>(World.cell?_of_block (a:=⟨r,j,none⟩) e).trans (h.at_ j hj),fun j=>by rw [World.frozen?_of_block (a:=⟨r,j,none⟩) e];exact h.fz j,by have:=h.lt;omega⟩
theorem Kw.kz {w:World} {r n:Nat} {l:List Int} (h:Kw w r n l) (hn:l.length≤n):Kz w r l:=fun i x hx=>by
 have hi:i<l.length:=(List.getElem?_eq_some_iff.1 hx).1
 rw [h.at_ i (by omega),List.getD_eq_getElem?_getD,hx]
 rfl
theorem Kw.set {w:World} {r n:Nat} {l:List Int} (h:Kw w r n l) (hn:l.length<n) (x:Int):Kw (w.setCell ⟨r,l.length,none⟩ (.int .i64 x)) r n (l ++ [x]):=by
 refine ⟨fun j hj=>?_,fun j=>by simpa using h.fz j,by simpa using h.lt⟩
 by_cases c:j=l.length
 ·subst c
  rw [cell_eq (h.at_ l.length hn)]
  simp
 ·rw [cell_ne (by omega),h.at_ j hj]
  congr 2
  rcases Nat.lt_or_ge j l.length with q | q
  ·simp [List.getElem?_append_left q]
  ·rw [List.getD_eq_getElem?_getD,List.getD_eq_getElem?_getD,List.getElem?_eq_none (by omega),List.getElem?_eq_none (by rw [List.length_append];show l.length+1≤j;omega)]
theorem makeK (n : Nat) (hn : n ≤ 3) (w : World) : ∃ o, (Instr.makeSlice 224 (.int .i64 (n : Nat)) (.int .i64 (n : Nat))).run Tryz.prog w = .ok (.slice (some ⟨w.heap.size, 0, none⟩) n n) (w.alloc o) ∧ Kw (w.alloc o) w.heap.size n [] := by
  match n, hn with
  | 0, _ => exact ⟨.cells #[] 23, by kernel_rfl, ⟨fun j hj => by omega, fun j => by simp, by simp⟩⟩
  | 1, _ => exact ⟨.cells #[.int .i64 0] 23, by kernel_rfl, ⟨fun j hj => by
      match j, hj with
      | 0, _ => simp, fun j => by simp, by simp⟩⟩
  | 2, _ => exact ⟨.cells #[.int .i64 0, .int .i64 0] 23, by kernel_rfl, ⟨fun j hj => by
      match j, hj with
      | 0, _ => simp
      | 1, _ => simp, fun j => by simp, by simp⟩⟩
  | 3, _ => exact ⟨.cells #[.int .i64 0, .int .i64 0, .int .i64 0] 23, by kernel_rfl, ⟨fun j hj => by
      match j, hj with
      | 0, _ => simp
      | 1, _ => simp
      | 2, _ => simp, fun j => by simp, by simp⟩⟩
def fltK (r:Int × Nat) (f:Nat):Nat:=if r.1=0 then r.2 else f
def KCl (b0 b1 b2 b3 b4 p:Nat) (ks:List Tr) (be:List (ByteArray × Nat)) (S:Nat→Prop) (loc:List ByteArray) (t:Tr):Prop :=
 ∀ (w:World) (f:Nat) (v:Value),Scp w b0 b1 b2 b3 b4 p ks be loc f→TabM w→Nd w S v t.kids→Calls Tryz.prog 149 #[.pointer (some ⟨p,0,none⟩),.agg #[.string t.op,.string t.name,.int .i64 (t.kind:Nat),.int .i64 t.n,.int .i64 (t.pl:Nat),v]] w fun e w'=>e=.returned (.int .i64 (chk ks be loc t).1)∧Scp w' b0 b1 b2 b3 b4 p ks be loc (fltK (chk ks be loc t) f)∧Gt2 w w' b4 p
structure KIn (w wr:World) (b0 b1 b2 b3 b4 p:Nat) (ks:List Tr) (be:List (ByteArray × Nat)) (S:Nat→Prop) (loc:List ByteArray) (f q r:Nat) (op nm:ByteArray) (kd:Nat) (n:Int) (pl:Nat) (sv:Value) (s:Bool) (ts:List Tr) (i:Nat) (l:List Int):Prop where
 sc:Scp wr b0 b1 b2 b3 b4 p ks be loc f
 tm:TabM wr
 nd:Nd wr (fun g=>S g∧g<q) sv ts
 bx:B6 wr q (.string op) (.string nm) (.int .i64 (kd:Nat)) (.int .i64 n) (.int .i64 (pl:Nat)) sv
 kw:Kw wr r ts.length l
 gs:Gt2 w wr b4 p
 ln:l.length=i
 cr:chkL ks be loc s nm true ts=(match chkL ks be loc s nm (decide (i=0)) (ts.drop i) with | .inl l2=>.inl (l ++ l2) | .inr f=>.inr f)
theorem cr_next {ks:List Tr} {be:List (ByteArray × Nat)} {loc:List ByteArray} {s:Bool} {nm:ByteArray} {ts:List Tr} {i:Nat} {k:Tr} (hk:ts[i]?=some k):chkL ks be loc s nm (decide (i=0)) (ts.drop i)=(if (chk ks be (if s && decide (0<i) then nm :: loc else loc) k).1=0 then .inr (chk ks be (if s && decide (0<i) then nm :: loc else loc) k).2 else match chkL ks be loc s nm false (ts.drop (i+1)) with | .inr f=>.inr f | .inl l=>.inl ((chk ks be (if s && decide (0<i) then nm :: loc else loc) k).1 :: l)):=by
 obtain ⟨hi,hk⟩:=List.getElem?_eq_some_iff.1 hk
 rw [List.drop_eq_getElem_cons hi,hk]
 have e:(s && !decide (i=0))=(s && decide (0<i)):=by
  congr 1
  by_cases c:i=0
  ·simp [c]
  ·simp [c];omega
 rw [chkL,e]
 cases chkL ks be loc s nm false (ts.drop (i+1)) <;> rfl
set_option maxRecDepth 100000 in
set_option maxHeartbeats 8000000 in
theorem kind_step {b0 b1 b2 b3 b4 p:Nat} {ks:List Tr} {be:List (ByteArray × Nat)} (S:Nat→Prop) (hS:∀ g,S g→g≠b4∧g≠p) (op nm:ByteArray) (kd:Nat) (n:Int) (pl:Nat) (ts:List Tr) (hl:ts.length≤3) (loc:List ByteArray) (hloc:loc.length≤100) (s:Bool) (hs:eqB op ⟨#[115,117,109]⟩=s)
  (hk:∀ i k,ts[i]?=some k→KCl b0 b1 b2 b3 b4 p ks be S (if s && decide (0<i) then nm :: loc else loc) k)
  (hn:∀ l,chkL ks be loc s nm true ts=.inl l→∀ (w:World) (f:Nat) (v:Value) (r kc:Nat),v.oneCell'=true→Scp w b0 b1 b2 b3 b4 p ks be loc f→TabM w→Kz w r l→Calls Tryz.prog 186 #[.pointer (some ⟨p,0,none⟩),.agg #[.string op,.string nm,.int .i64 (kd:Nat),.int .i64 n,.int .i64 (pl:Nat),v],.slice (some ⟨r,0,none⟩) l.length kc] w fun e w'=>e=.returned (.int .i64 (nodeK ks be loc op nm kd l))∧Below w.heap.size w w') :
  KCl b0 b1 b2 b3 b4 p ks be S loc (.nd op nm kd n pl ts):=by
 intro w f v h hT hd
 dsimp only [Tr.op,Tr.name,Tr.kind,Tr.n,Tr.pl,Tr.kids] at hd ⊢
 obtain ⟨sa,sc,rfl⟩:=hd.lenY
 have B1:=hid (show Below w.heap.size w (w.alloc (.cells #[.string op,.string nm,.int .i64 (kd:Nat),.int .i64 n,.int .i64 (pl:Nat),.slice sa ts.length sc] 26)) from (Below.refl _ _).alloc (Nat.le_refl _) _)
 have X1:=hid (B6.new w 26 (.string op) (.string nm) (.int .i64 (kd:Nat)) (.int .i64 n) (.int .i64 (pl:Nat)) (.slice sa ts.length sc))
 have S1:=hid (h.next B1.out)
 have T1:=hid (hT.next B1.out)
 have N1:=hid (hd.keep (S':=fun g=>S g∧g<w.heap.size) fun g s l=>⟨⟨s,l⟩,B1.out.block g l⟩)
 have PQ:=hid h.pl
 have HS:=hid hS
 have HK:=hid hk
 have HN:=hid hn
 have LT:=hid h.lt
 have CN:=hid (show cntK loc nm≤100 from Nat.le_trans (List.countP_le_length) hloc)
 have z0:(op.toList==[115,117,109])=s:=(eqL _ _).trans hs
 obtain ⟨R,hR⟩:∃ R,chk ks be loc (.nd op nm kd n pl ts)=R:=⟨_,rfl⟩
 have RH:=hid (show (match chkL ks be loc s nm true ts with
  | .inr f=>((0:Int),f)
  | .inl l=>if nodeK ks be loc op nm kd l=0 then (0,pl) else (nodeK ks be loc op nm kd l,0))=R from by rw [← hR,chk,hs];cases chkL ks be loc s nm true ts <;> rfl)
 have HL:=hid hl
 have KL9:(ts.length:Int)≤3:=by omega
 rw [hR]
 clear h hT hd hS hk hn hs hR hloc hl
 go_enter Tryz.func149,Tryz.ntmps149
 go_upto_region 1 with fail
 generalize World.alloc w _=w1 at *
 obtain ⟨o,mk,kw1⟩:=makeK ts.length HL.out w1
 have BA:=hid (show Below w1.heap.size w1 (w1.alloc o) from (Below.refl _ _).alloc (Nat.le_refl _) _)
 have KW:=hid kw1
 have QR:=hid X1.out.lt
 have e5:=X1.out.c5
 clear kw1
 go_upto_region 2 with fail
 clear e5 mk
 generalize World.alloc w1 _=w2 at *
 generalize w1.heap.size=r at *
 have e5:=(X1.out.keep (BA.out.block _ QR.out)).c5
 have I0:=hid (show KIn w w2 b0 b1 b2 b3 b4 p ks be S loc f w.heap.size r op nm kd n pl (.slice sa ts.length sc) s ts 0 [] from
  ⟨S1.out.keep (fun g e=>BA.out.block g (by have:=PQ.out;have:=LT.out;have:=QR.out;omega)),T1.out.keep BA.out.size (BA.out.block 3 (by have:=QR.out;have:=PQ.out;have:=LT.out;omega)),N1.out.keep (fun g a b=>⟨a,BA.out.block g (by have:=a.2;have:=QR.out;omega)⟩),X1.out.keep (BA.out.block _ QR.out),KW.out,((Gt2.refl w b4 p).below B1.out).bel (B:=r) (Nat.le_of_lt QR.out) BA.out,rfl,by
   show chkL ks be loc s nm true ts=_
   rw [List.drop_zero]
   show _=(match chkL ks be loc s nm true ts with | .inl l2=>Sum.inl ([] ++ l2) | .inr f=>Sum.inr f)
   cases chkL ks be loc s nm true ts <;> rfl⟩)
 clear S1 T1 N1 X1 KW B1
 go_upto_region 3 with fail
 clear e5
 go_loopg [17,6,7,8] (ts.length) (fun g iv jv kv bv wr=>∃ (i:Nat) (l:List Int),i≤ts.length∧g=ts.length - i∧iv=.int .i64 (i:Nat)∧Hid (KIn w wr b0 b1 b2 b3 b4 p ks be S loc f w.heap.size r op nm kd n pl (.slice sa ts.length sc) s ts i l))
 case atStart=>exact ⟨0,[],Nat.zero_le _,rfl,rfl,I0.out⟩
 case round =>
  obtain ⟨i,l,hi,rfl,rfl,II⟩:=hrel
  by_cases qi:i<ts.length
  ·have qi':(i:Int)<(ts.length:Int):=by omega
   obtain ⟨k,hk⟩:∃ k,ts[i]?=some k:=⟨_,List.getElem?_eq_getElem qi⟩
   obtain ⟨g,c,s3,ea,nc,nk⟩:=II.out.nd.atY i k hk
   obtain ⟨ka,km,kc,rfl⟩:=nk.slice
   injection ea with ea _ ec
   subst ea ec
   have KK:=hid (HK.out i k hk)
   have CR:=hid (cr_next (ks:=ks) (be:=be) (loc:=loc) (s:=s) (nm:=nm) hk)
   have NK:=hid nk
   obtain ⟨n0,n1,n2,n3,n4,n5⟩:=nc
   clear nk hk
   have B3:=hid (show Below wr.heap.size wr (wr.alloc (.cells #[.string k.op,.string k.name,.int .i64 (k.kind:Nat),.int .i64 k.n,.int .i64 (k.pl:Nat),.slice ka km kc] 26)) from (Below.refl _ _).alloc (Nat.le_refl _) _)
   have X3:=hid (B6.new wr 26 (.string k.op) (.string k.name) (.int .i64 (k.kind:Nat)) (.int .i64 k.n) (.int .i64 (k.pl:Nat)) (.slice ka km kc))
   have S3:=hid (II.out.sc.next B3.out)
   have T3:=hid (II.out.tm.next B3.out)
   have N3:=hid (NK.out.keep (S':=fun g=>S g∧g<w.heap.size) fun g s l=>⟨s,B3.out.block g l⟩)
   have M3:=hid (II.out.nd.keep (S':=fun g=>S g∧g<w.heap.size) fun g s l=>⟨s,B3.out.block g l⟩)
   have Y3:=hid (II.out.bx.next B3.out)
   have W3:=hid (II.out.kw.keep B3.out.size (B3.out.block r II.out.kw.lt))
   have G3:=hid (II.out.gs.below B3.out)
   have RB:=hid II.out.kw.lt
   have LN:=hid II.out.ln
   have CQ:=hid II.out.cr
   clear NK II
   go_upto_region 5 with fail
   clear n0 n1 n2 n3 n4 n5
   generalize World.alloc wr _=w3 at *
   generalize wr.heap.size=xb at *
   have y0:=Y3.out.c0
   cases s with
   | false =>
    have EV:=hid (show (if false && decide (0<i) then nm :: loc else loc)=loc from by simp)
    rw [EV.out] at KK
    have KC:=hid (KK.out _ f _ S3.out T3.out (N3.out.keep (S':=S) fun g s l=>⟨s.1,rfl⟩))
    obtain ⟨x0,x1,x2,x3,x4,x5,xz⟩:=X3.out
    go_upto_region 9 with (go_at_call 149;with_reducible refine Calls.mono KC.out ?_;rintro e w4 ⟨rfl,sc4,g4⟩;have S4:=hid sc4;have T4:=hid (T3.out.gs g4 (by have:=LT.out;omega) (by have:=LT.out;omega));have W4:=hid (W3.out.keep g4.size (g4.block r W3.out.lt (by have:=LT.out;have:=PQ.out;have:=QR.out;omega) (by have:=PQ.out;have:=QR.out;omega)));have Y4:=hid (Y3.out.keep (g4.block _ Y3.out.lt (by have:=LT.out;have:=PQ.out;omega) (by have:=PQ.out;omega)));have M4:=hid (M3.out.keep (S':=fun g=>S g∧g<w.heap.size) (fun g s l=>⟨s,g4.block g l (HS.out g s.1).1 (HS.out g s.1).2⟩));have G4:=hid (G3.out.trans g4);have zc:=W4.out.at_ i qi;have zf:=W4.out.fz i;clear sc4 g4)
    clear y0 x0 x1 x2 x3 x4 x5 xz zc zf
    have W5:=hid (show Kw (w4.setCell ⟨r,i,none⟩ (.int .i64 (chk ks be (loc) k).1)) r ts.length (l ++ [(chk ks be (loc) k).1]) from by have:=W4.out.set (by rw [LN.out];exact qi) (chk ks be (loc) k).1;rw [LN.out] at this;exact this)
    have S5:=hid (S4.out.far (q:=r) (i:=i) (by have:=PQ.out;have:=QR.out;omega) (.int .i64 (chk ks be (loc) k).1))
    have T5:=hid (T4.out.keep (w':=w4.setCell ⟨r,i,none⟩ (.int .i64 (chk ks be (loc) k).1)) (by simp) (Below.heap_setCell w4 ⟨r,i,none⟩ _ 3 (by have:=QR.out;have:=PQ.out;have:=LT.out;intro e;have e:3=r:=e;omega)))
    have Y5:=hid (Y4.out.put (q:=r) (i:=i) (by have:=QR.out;omega) (.int .i64 (chk ks be (loc) k).1))
    have M5:=hid (M4.out.put (q:=r) (i:=i) (n:=0) (fun e=>by have:=e.2;have:=QR.out;omega) (.int .i64 (chk ks be (loc) k).1))
    have G5:=hid (G4.out.put (q:=r) (i:=i) (by have:=QR.out;omega) (.int .i64 (chk ks be (loc) k).1))
    clear S4 T4 W4 Y4 M4 G4
    rw [EV.out] at CR
    generalize hkr:chk ks be (loc) k=kr at *
    generalize World.setCell w4 ⟨r,i,none⟩ _=w5 at *
    have zk:=W5.out.at_ i qi
    have e0:(l ++ [kr.1]).getD i 0=kr.1:=by rw [← LN.out];simp
    rw [e0] at zk
    clear hkr e0
    by_cases qk:kr.1=0
    ·have zk0:(kr.1==0)=true:=by simpa using qk
     have FF:=hid (show (0,kr.2)=R from by rw [← RH.out,CQ.out,CR.out,if_pos qk])
     have FK:=hid (show fltK kr f=fltK R f from by rw [← FF.out];unfold fltK;rw [if_pos qk];rfl)
     clear qk
     go_wp2_with fail
     go_returns
     exact ⟨by rw [← FF.out];rfl,by rw [← FK.out];exact S5.out,G5.out⟩
    ·have zk0:(kr.1==0)=false:=beqI _ _ qk
     have FK:=hid (show fltK kr f=f from by unfold fltK;rw [if_neg qk])
     have C2:=hid (show chkL ks be loc false nm true ts=(match chkL ks be loc false nm (decide (i+1=0)) (ts.drop (i+1)) with | .inl l2=>.inl ((l ++ [kr.1]) ++ l2) | .inr f=>.inr f) from by
      rw [CQ.out,CR.out,if_neg qk]
      show _=(match chkL ks be loc false nm false (ts.drop (i+1)) with | .inl l2=>Sum.inl ((l ++ [kr.1]) ++ l2) | .inr f=>Sum.inr f)
      cases chkL ks be loc false nm false (ts.drop (i+1)) with
      | inl a=>simp
      | inr a=>rfl)
     rw [FK.out] at S5
     clear qk
     go_wp2_with fail
     go_roundg (ts.length - (i+1))
     case measure=>omega
     case rel=>exact ⟨i+1,l ++ [kr.1],by omega,rfl,by rw [Int.natCast_add];rfl,S5.out,T5.out,M5.out,Y5.out,W5.out,G5.out,by rw [List.length_append,LN.out];rfl,C2.out⟩
   | true =>
    by_cases q0:0<i
    ·have q0':(0:Int)<(i:Int):=by omega
     have EV:=hid (show (if true && decide (0<i) then nm :: loc else loc)=nm :: loc from by simp [q0])
     rw [EV.out] at KK
     go_upto_region 7 with fail
     have c4:=S3.out.c4
     have y1:=Y3.out.c1
     refine wp_region_held_drew (S:=fun W=>W.cell? ⟨p,4,none⟩=some (.map (some b4))∧W.cell? ⟨w.heap.size,1,none⟩=some (.string nm)) (by kernel_rfl) ⟨c4,y1⟩ (fun hHeld=>?_)
     refine take2 rfl (i:=0) (v:=.pointer (some ⟨p,0,none⟩)) (d:=30) rfl rfl (by kernel_rfl) (by kernel_rfl) (by kernel_rfl) (fun _ _ _ h=>h) (Or.inl ⟨by rfl,?_⟩) hHeld ?_
     ·(intro W hW;(try dsimp only at hW);go_simp)
     try simp only [Act.put,List.setIfInBounds_toArray,List.set_cons_zero,List.set_cons_succ]
     refine take2 rfl (i:=1) (v:=.pointer (some ⟨p,0,none⟩)) (d:=31) rfl rfl (by kernel_rfl) (by kernel_rfl) (by kernel_rfl) (fun _ _ _ h=>h) (Or.inl ⟨by rfl,?_⟩) hHeld ?_
     ·(intro W hW;(try dsimp only at hW);go_simp)
     try simp only [Act.put,List.setIfInBounds_toArray,List.set_cons_zero,List.set_cons_succ]
     refine take2 rfl (i:=2) (v:=.pointer (some ⟨p,4,none⟩)) (d:=32) rfl rfl (by kernel_rfl) (by kernel_rfl) (by kernel_rfl) (fun _ _ _ h=>h) (Or.inl ⟨by rfl,?_⟩) hHeld ?_
     ·(intro W hW;(try dsimp only at hW);go_simp)
     try simp only [Act.put,List.setIfInBounds_toArray,List.set_cons_zero,List.set_cons_succ]
     refine take2 rfl (i:=3) (v:=.map (some b4)) (d:=33) rfl rfl (by kernel_rfl) (by kernel_rfl) (by kernel_rfl) (fun _ _ _ h=>h) (Or.inl ⟨by rfl,?_⟩) hHeld ?_
     ·(intro W hW;(try dsimp only at hW);have c4:=hW.1;go_simp)
     try simp only [Act.put,List.setIfInBounds_toArray,List.set_cons_zero,List.set_cons_succ]
     refine take2 rfl (i:=4) (v:=.pointer (some ⟨w.heap.size,1,none⟩)) (d:=34) rfl rfl (by kernel_rfl) (by kernel_rfl) (by kernel_rfl) (fun _ _ _ h=>h) (Or.inl ⟨by rfl,?_⟩) hHeld ?_
     ·(intro W hW;(try dsimp only at hW);go_simp)
     try simp only [Act.put,List.setIfInBounds_toArray,List.set_cons_zero,List.set_cons_succ]
     refine take2 rfl (i:=5) (v:=.string nm) (d:=35) rfl rfl (by kernel_rfl) (by kernel_rfl) (by kernel_rfl) (fun _ _ _ h=>h) (Or.inl ⟨by rfl,?_⟩) hHeld ?_
     ·(intro W hW;(try dsimp only at hW);have c4:=hW.2;go_simp)
     try simp only [Act.put,List.setIfInBounds_toArray,List.set_cons_zero,List.set_cons_succ]
     clear c4 y1
     have D3:=hid (show Below w3.heap.size w3 w3.drew from (Below.refl _ _).drew)
     generalize w3.drew=wz at *
     have SZ:=hid (S3.out.next D3.out)
     have YZ:=hid (Y3.out.next D3.out)
     have k4:=SZ.out.k4 nm
     have cb:(cntK loc nm:Int)≤100:=by have:=CN.out;omega
     have cw:IntKind.i64.wrap ((cntK loc nm:Int)+1)=(cntK loc nm:Int)+1:=by go_arith
     refine wpAnyH_ready (rs:=[6]) (by kernel_rfl) (by simp) ?_
     refine cons2 rfl rfl (fun K9 hK=>?_)
     go_simp
     refine hK.out _ _ ⟨SZ.out.c4,YZ.out.c1⟩ (fun hX=>?_)
     clear hK K9 hHeld
     have hHeld:=hX
     clear hX
     try simp only [Act.put,List.setIfInBounds_toArray,List.set_cons_zero,List.set_cons_succ]
     refine take2 rfl (i:=7) (v:=.int .i64 ((cntK loc nm:Int)+1)) (d:=37) rfl rfl (by kernel_rfl) (by kernel_rfl) (by kernel_rfl) (fun _ _ _ h=>h) (Or.inl ⟨by rfl,?_⟩) hHeld ?_
     ·(intro W hW;(try dsimp only at hW);go_simp)
     try simp only [Act.put,List.setIfInBounds_toArray,List.set_cons_zero,List.set_cons_succ]
     clear k4
     obtain ⟨w6,r6,sc6,g6⟩:=SZ.out.push nm
     have X6:=hid (X3.out.next D3.out |>.grown g6 (fun e=>by injection e with e;have:=RB.out;have:=QR.out;have:=PQ.out;have:=LT.out;omega))
     have Y6:=hid (YZ.out.grown g6 (fun e=>by injection e with e;have:=PQ.out;have:=LT.out;omega))
     have S6:=hid sc6
     have T6:=hid ((T3.out.next D3.out).keep g6.size (g6.block 3 (T3.out.next D3.out).1 (fun e=>by injection e with e;have:=LT.out;omega)))
     have N6:=hid ((N3.out.gwY D3.out).keep (S':=fun g=>S g∧g<w.heap.size) (fun g s l=>⟨s,g6.block g l (fun e=>(HS.out g s.1).1 (by injection e))⟩))
     have M6:=hid ((M3.out.gwY D3.out).keep (S':=fun g=>S g∧g<w.heap.size) (fun g s l=>⟨s,g6.block g l (fun e=>(HS.out g s.1).1 (by injection e))⟩))
     have W6:=hid ((W3.out.keep D3.out.size (D3.out.block r W3.out.lt)).keep g6.size (g6.block r (W3.out.keep D3.out.size (D3.out.block r W3.out.lt)).lt (fun e=>by injection e with e;have:=PQ.out;have:=QR.out;have:=LT.out;omega)))
     have G6:=hid ((G3.out.below D3.out).grown g6)
     clear sc6 g6
     refine wpAnyH_ready (rs:=[8]) (by kernel_rfl) (by simp) ?_
     refine cons2 rfl rfl (fun K9 hK=>?_)
     go_simp
     go_wp2_with fail
     refine hK.out _ _ ⟨S6.out.c4,Y6.out.c1⟩ (fun hX=>?_)
     clear hK K9 hHeld
     have hHeld:=hX
     clear hX
     try simp only [Act.put,List.setIfInBounds_toArray,List.set_cons_zero,List.set_cons_succ]
     refine wpAnyH_done (by kernel_rfl) ?_ _
     clear S3 T3 N3 M3 Y3 W3 G3 X3 SZ YZ r6
     have KC:=hid (KK.out _ f _ S6.out T6.out (N6.out.keep (S':=S) fun g s l=>⟨s.1,rfl⟩))
     obtain ⟨x0,x1,x2,x3,x4,x5,xz⟩:=X6.out
     go_upto_region 9 with (go_at_call 149;with_reducible refine Calls.mono KC.out ?_;rintro e w4 ⟨rfl,sc4,g4⟩;have S4:=hid sc4;have T4:=hid (T6.out.gs g4 (by have:=LT.out;omega) (by have:=LT.out;omega));have W4:=hid (W6.out.keep g4.size (g4.block r W6.out.lt (by have:=LT.out;have:=PQ.out;have:=QR.out;omega) (by have:=PQ.out;have:=QR.out;omega)));have Y4:=hid (Y6.out.keep (g4.block _ Y6.out.lt (by have:=LT.out;have:=PQ.out;omega) (by have:=PQ.out;omega)));have M4:=hid (M6.out.keep (S':=fun g=>S g∧g<w.heap.size) (fun g s l=>⟨s,g4.block g l (HS.out g s.1).1 (HS.out g s.1).2⟩));have G4:=hid (G6.out.trans g4);have zc:=W4.out.at_ i qi;have zf:=W4.out.fz i;clear sc4 g4)
     clear y0 x0 x1 x2 x3 x4 x5 xz zc zf
     have W5:=hid (show Kw (w4.setCell ⟨r,i,none⟩ (.int .i64 (chk ks be (nm :: loc) k).1)) r ts.length (l ++ [(chk ks be (nm :: loc) k).1]) from by have:=W4.out.set (by rw [LN.out];exact qi) (chk ks be (nm :: loc) k).1;rw [LN.out] at this;exact this)
     have S5:=hid (S4.out.far (q:=r) (i:=i) (by have:=PQ.out;have:=QR.out;omega) (.int .i64 (chk ks be (nm :: loc) k).1))
     have T5:=hid (T4.out.keep (w':=w4.setCell ⟨r,i,none⟩ (.int .i64 (chk ks be (nm :: loc) k).1)) (by simp) (Below.heap_setCell w4 ⟨r,i,none⟩ _ 3 (by have:=QR.out;have:=PQ.out;have:=LT.out;intro e;have e:3=r:=e;omega)))
     have Y5:=hid (Y4.out.put (q:=r) (i:=i) (by have:=QR.out;omega) (.int .i64 (chk ks be (nm :: loc) k).1))
     have M5:=hid (M4.out.put (q:=r) (i:=i) (n:=0) (fun e=>by have:=e.2;have:=QR.out;omega) (.int .i64 (chk ks be (nm :: loc) k).1))
     have G5:=hid (G4.out.put (q:=r) (i:=i) (by have:=QR.out;omega) (.int .i64 (chk ks be (nm :: loc) k).1))
     clear S4 T4 W4 Y4 M4 G4
     rw [EV.out] at CR
     generalize hkr:chk ks be (nm :: loc) k=kr at *
     generalize World.setCell w4 ⟨r,i,none⟩ _=w5 at *
     have zk:=W5.out.at_ i qi
     have e0:(l ++ [kr.1]).getD i 0=kr.1:=by rw [← LN.out];simp
     rw [e0] at zk
     clear hkr e0
     go_upto_region 10 with fail
     have c4:=S5.out.c4
     have y1:=Y5.out.c1
     refine wp_region_held_drew (S:=fun W=>W.cell? ⟨p,4,none⟩=some (.map (some b4))∧W.cell? ⟨w.heap.size,1,none⟩=some (.string nm)) (by kernel_rfl) ⟨c4,y1⟩ (fun hHeld=>?_)
     refine take2 rfl (i:=0) (v:=.pointer (some ⟨p,0,none⟩)) (d:=45) rfl rfl (by kernel_rfl) (by kernel_rfl) (by kernel_rfl) (fun _ _ _ h=>h) (Or.inl ⟨by rfl,?_⟩) hHeld ?_
     ·(intro W hW;(try dsimp only at hW);go_simp)
     try simp only [Act.put,List.setIfInBounds_toArray,List.set_cons_zero,List.set_cons_succ]
     refine take2 rfl (i:=1) (v:=.pointer (some ⟨p,0,none⟩)) (d:=46) rfl rfl (by kernel_rfl) (by kernel_rfl) (by kernel_rfl) (fun _ _ _ h=>h) (Or.inl ⟨by rfl,?_⟩) hHeld ?_
     ·(intro W hW;(try dsimp only at hW);go_simp)
     try simp only [Act.put,List.setIfInBounds_toArray,List.set_cons_zero,List.set_cons_succ]
     refine take2 rfl (i:=2) (v:=.pointer (some ⟨p,4,none⟩)) (d:=47) rfl rfl (by kernel_rfl) (by kernel_rfl) (by kernel_rfl) (fun _ _ _ h=>h) (Or.inl ⟨by rfl,?_⟩) hHeld ?_
     ·(intro W hW;(try dsimp only at hW);go_simp)
     try simp only [Act.put,List.setIfInBounds_toArray,List.set_cons_zero,List.set_cons_succ]
     refine take2 rfl (i:=3) (v:=.map (some b4)) (d:=48) rfl rfl (by kernel_rfl) (by kernel_rfl) (by kernel_rfl) (fun _ _ _ h=>h) (Or.inl ⟨by rfl,?_⟩) hHeld ?_
     ·(intro W hW;(try dsimp only at hW);have c4:=hW.1;go_simp)
     try simp only [Act.put,List.setIfInBounds_toArray,List.set_cons_zero,List.set_cons_succ]
     refine take2 rfl (i:=4) (v:=.pointer (some ⟨w.heap.size,1,none⟩)) (d:=49) rfl rfl (by kernel_rfl) (by kernel_rfl) (by kernel_rfl) (fun _ _ _ h=>h) (Or.inl ⟨by rfl,?_⟩) hHeld ?_
     ·(intro W hW;(try dsimp only at hW);go_simp)
     try simp only [Act.put,List.setIfInBounds_toArray,List.set_cons_zero,List.set_cons_succ]
     refine take2 rfl (i:=5) (v:=.string nm) (d:=50) rfl rfl (by kernel_rfl) (by kernel_rfl) (by kernel_rfl) (fun _ _ _ h=>h) (Or.inl ⟨by rfl,?_⟩) hHeld ?_
     ·(intro W hW;(try dsimp only at hW);have c4:=hW.2;go_simp)
     try simp only [Act.put,List.setIfInBounds_toArray,List.set_cons_zero,List.set_cons_succ]
     clear c4 y1
     have D5:=hid (show Below w5.heap.size w5 w5.drew from (Below.refl _ _).drew)
     generalize w5.drew=wy at *
     have SY:=hid (S5.out.next D5.out)
     have YY:=hid (Y5.out.next D5.out)
     have k4:=SY.out.k4 nm
     have cb2:(cntK (nm :: loc) nm:Int)≤101:=by have:=CN.out;rw [cnt_cons,if_pos rfl];omega
     have cb3:(1:Int)≤(cntK (nm :: loc) nm:Int):=by rw [cnt_cons,if_pos rfl];omega
     have cw2:IntKind.i64.wrap ((cntK (nm :: loc) nm:Int) - 1)=(cntK (nm :: loc) nm:Int) - 1:=by go_arith
     refine wpAnyH_ready (rs:=[6]) (by kernel_rfl) (by simp) ?_
     refine cons2 rfl rfl (fun K9 hK=>?_)
     go_simp
     refine hK.out _ _ ⟨SY.out.c4,YY.out.c1⟩ (fun hX=>?_)
     clear hK K9 hHeld
     have hHeld:=hX
     clear hX
     try simp only [Act.put,List.setIfInBounds_toArray,List.set_cons_zero,List.set_cons_succ]
     refine take2 rfl (i:=7) (v:=.int .i64 ((cntK (nm :: loc) nm:Int) - 1)) (d:=52) rfl rfl (by kernel_rfl) (by kernel_rfl) (by kernel_rfl) (fun _ _ _ h=>h) (Or.inl ⟨by rfl,?_⟩) hHeld ?_
     ·(intro W hW;(try dsimp only at hW);go_simp)
     try simp only [Act.put,List.setIfInBounds_toArray,List.set_cons_zero,List.set_cons_succ]
     clear k4
     obtain ⟨w7,r7,sc7,g7⟩:=SY.out.pop
     have S7:=hid sc7
     have Y7:=hid (YY.out.grown g7 (fun e=>by injection e with e;have:=PQ.out;have:=LT.out;omega))
     have T7:=hid ((T5.out.next D5.out).keep g7.size (g7.block 3 (T5.out.next D5.out).1 (fun e=>by injection e with e;have:=LT.out;omega)))
     have M7:=hid ((M5.out.gwY D5.out).keep (S':=fun g=>S g∧g<w.heap.size) (fun g s l=>⟨s,g7.block g l (fun e=>(HS.out g s.1).1 (by injection e))⟩))
     have W7:=hid ((W5.out.keep D5.out.size (D5.out.block r W5.out.lt)).keep g7.size (g7.block r (W5.out.keep D5.out.size (D5.out.block r W5.out.lt)).lt (fun e=>by injection e with e;have:=PQ.out;have:=QR.out;have:=LT.out;omega)))
     have G7:=hid ((G5.out.below D5.out).grown g7)
     clear sc7 g7
     refine wpAnyH_ready (rs:=[8]) (by kernel_rfl) (by simp) ?_
     refine cons2 rfl rfl (fun K9 hK=>?_)
     go_simp
     go_wp2_with fail
     refine hK.out _ _ ⟨S7.out.c4,Y7.out.c1⟩ (fun hX=>?_)
     clear hK K9 hHeld
     have hHeld:=hX
     clear hX
     try simp only [Act.put,List.setIfInBounds_toArray,List.set_cons_zero,List.set_cons_succ]
     refine wpAnyH_done (by kernel_rfl) ?_ _
     clear S5 T5 M5 Y5 W5 G5 SY YY r7 zk
     have zk:=W7.out.at_ i qi
     have e0:(l ++ [kr.1]).getD i 0=kr.1:=by rw [← LN.out];simp
     rw [e0] at zk
     clear e0
     by_cases qk:kr.1=0
     ·have zk0:(kr.1==0)=true:=by simpa using qk
      have FF:=hid (show (0,kr.2)=R from by rw [← RH.out,CQ.out,CR.out,if_pos qk])
      have FK:=hid (show fltK kr f=fltK R f from by rw [← FF.out];unfold fltK;rw [if_pos qk];rfl)
      clear qk
      go_wp2_with fail
      go_returns
      exact ⟨by rw [← FF.out];rfl,by rw [← FK.out];exact S7.out,G7.out⟩
     ·have zk0:(kr.1==0)=false:=beqI _ _ qk
      have FK:=hid (show fltK kr f=f from by unfold fltK;rw [if_neg qk])
      have C2:=hid (show chkL ks be loc true nm true ts=(match chkL ks be loc true nm (decide (i+1=0)) (ts.drop (i+1)) with | .inl l2=>.inl ((l ++ [kr.1]) ++ l2) | .inr f=>.inr f) from by
       rw [CQ.out,CR.out,if_neg qk]
       show _=(match chkL ks be loc true nm false (ts.drop (i+1)) with | .inl l2=>Sum.inl ((l ++ [kr.1]) ++ l2) | .inr f=>Sum.inr f)
       cases chkL ks be loc true nm false (ts.drop (i+1)) with
       | inl a=>simp
       | inr a=>rfl)
      rw [FK.out] at S7
      clear qk
      go_wp2_with fail
      go_roundg (ts.length - (i+1))
      case measure=>omega
      case rel=>exact ⟨i+1,l ++ [kr.1],by omega,rfl,by rw [Int.natCast_add];rfl,S7.out,T7.out,M7.out,Y7.out,W7.out,G7.out,by rw [List.length_append,LN.out];rfl,C2.out⟩
    ·have q0':¬ (0:Int)<(i:Int):=by omega
     have EV:=hid (show (if true && decide (0<i) then nm :: loc else loc)=loc from by simp [q0])
     rw [EV.out] at KK
     have KC:=hid (KK.out _ f _ S3.out T3.out (N3.out.keep (S':=S) fun g s l=>⟨s.1,rfl⟩))
     obtain ⟨x0,x1,x2,x3,x4,x5,xz⟩:=X3.out
     go_upto_region 9 with (go_at_call 149;with_reducible refine Calls.mono KC.out ?_;rintro e w4 ⟨rfl,sc4,g4⟩;have S4:=hid sc4;have T4:=hid (T3.out.gs g4 (by have:=LT.out;omega) (by have:=LT.out;omega));have W4:=hid (W3.out.keep g4.size (g4.block r W3.out.lt (by have:=LT.out;have:=PQ.out;have:=QR.out;omega) (by have:=PQ.out;have:=QR.out;omega)));have Y4:=hid (Y3.out.keep (g4.block _ Y3.out.lt (by have:=LT.out;have:=PQ.out;omega) (by have:=PQ.out;omega)));have M4:=hid (M3.out.keep (S':=fun g=>S g∧g<w.heap.size) (fun g s l=>⟨s,g4.block g l (HS.out g s.1).1 (HS.out g s.1).2⟩));have G4:=hid (G3.out.trans g4);have zc:=W4.out.at_ i qi;have zf:=W4.out.fz i;clear sc4 g4)
     clear y0 x0 x1 x2 x3 x4 x5 xz zc zf
     have W5:=hid (show Kw (w4.setCell ⟨r,i,none⟩ (.int .i64 (chk ks be (loc) k).1)) r ts.length (l ++ [(chk ks be (loc) k).1]) from by have:=W4.out.set (by rw [LN.out];exact qi) (chk ks be (loc) k).1;rw [LN.out] at this;exact this)
     have S5:=hid (S4.out.far (q:=r) (i:=i) (by have:=PQ.out;have:=QR.out;omega) (.int .i64 (chk ks be (loc) k).1))
     have T5:=hid (T4.out.keep (w':=w4.setCell ⟨r,i,none⟩ (.int .i64 (chk ks be (loc) k).1)) (by simp) (Below.heap_setCell w4 ⟨r,i,none⟩ _ 3 (by have:=QR.out;have:=PQ.out;have:=LT.out;intro e;have e:3=r:=e;omega)))
     have Y5:=hid (Y4.out.put (q:=r) (i:=i) (by have:=QR.out;omega) (.int .i64 (chk ks be (loc) k).1))
     have M5:=hid (M4.out.put (q:=r) (i:=i) (n:=0) (fun e=>by have:=e.2;have:=QR.out;omega) (.int .i64 (chk ks be (loc) k).1))
     have G5:=hid (G4.out.put (q:=r) (i:=i) (by have:=QR.out;omega) (.int .i64 (chk ks be (loc) k).1))
     clear S4 T4 W4 Y4 M4 G4
     rw [EV.out] at CR
     generalize hkr:chk ks be (loc) k=kr at *
     generalize World.setCell w4 ⟨r,i,none⟩ _=w5 at *
     have zk:=W5.out.at_ i qi
     have e0:(l ++ [kr.1]).getD i 0=kr.1:=by rw [← LN.out];simp
     rw [e0] at zk
     clear hkr e0
     by_cases qk:kr.1=0
     ·have zk0:(kr.1==0)=true:=by simpa using qk
      have FF:=hid (show (0,kr.2)=R from by rw [← RH.out,CQ.out,CR.out,if_pos qk])
      have FK:=hid (show fltK kr f=fltK R f from by rw [← FF.out];unfold fltK;rw [if_pos qk];rfl)
      clear qk
      go_wp2_with fail
      go_returns
      exact ⟨by rw [← FF.out];rfl,by rw [← FK.out];exact S5.out,G5.out⟩
     ·have zk0:(kr.1==0)=false:=beqI _ _ qk
      have FK:=hid (show fltK kr f=f from by unfold fltK;rw [if_neg qk])
      have C2:=hid (show chkL ks be loc true nm true ts=(match chkL ks be loc true nm (decide (i+1=0)) (ts.drop (i+1)) with | .inl l2=>.inl ((l ++ [kr.1]) ++ l2) | .inr f=>.inr f) from by
       rw [CQ.out,CR.out,if_neg qk]
       show _=(match chkL ks be loc true nm false (ts.drop (i+1)) with | .inl l2=>Sum.inl ((l ++ [kr.1]) ++ l2) | .inr f=>Sum.inr f)
       cases chkL ks be loc true nm false (ts.drop (i+1)) with
       | inl a=>simp
       | inr a=>rfl)
      rw [FK.out] at S5
      clear qk
      go_wp2_with fail
      go_roundg (ts.length - (i+1))
      case measure=>omega
      case rel=>exact ⟨i+1,l ++ [kr.1],by omega,rfl,by rw [Int.natCast_add];rfl,S5.out,T5.out,M5.out,Y5.out,W5.out,G5.out,by rw [List.length_append,LN.out];rfl,C2.out⟩
  ·have qi':¬ (i:Int)<(ts.length:Int):=by omega
   have LE:=hid (show ts.length=l.length from by have:=II.out.ln;omega)
   have CF:=hid (show chkL ks be loc s nm true ts=.inl l from by rw [II.out.cr,List.drop_eq_nil_of_le (by omega),chkL];simp)
   have KN:=hid (HN.out l CF.out wr f (.slice sa ts.length sc) r ts.length rfl II.out.sc II.out.tm (II.out.kw.kz (by rw [LE.out];exact Nat.le_refl _)))
   rw [← LE.out] at KN
   have RF:=hid (show (if nodeK ks be loc op nm kd l=0 then (0,pl) else (nodeK ks be loc op nm kd l,0))=R from by rw [← RH.out,CF.out])
   generalize nodeK ks be loc op nm kd l=D at *
   obtain ⟨x0,x1,x2,x3,x4,x5,xz⟩:=II.out.bx
   go_upto_region 15 with (go_at_call 186;with_reducible refine Calls.mono KN.out ?_;rintro e w4 ⟨rfl,b4'⟩;have B4:=hid b4';clear b4')
   clear x0 x1 x2 x3 x4 x5 xz
   by_cases qk:D=0
   ·have zk0:(D==0)=true:=by simpa using qk
    have FF:=hid (show (0,pl)=R from by rw [← RF.out,if_pos qk])
    have D0:=hid qk
    have c5:=(II.out.sc.next B4.out).c5
    have cz:=(II.out.sc.next B4.out).fz 5
    have x4:=(II.out.bx.next B4.out).c4
    clear qk
    go_wp2_with fail
    go_returns
    exact ⟨by rw [← FF.out,D0.out];rfl,by rw [← FF.out];exact (II.out.sc.next B4.out).flt pl,(II.out.gs.below B4.out).set _⟩
   ·have zk0:(D==0)=false:=beqI _ _ qk
    have FF:=hid (show (D,0)=R from by rw [← RF.out,if_neg qk])
    have FK:=hid (show fltK R f=f from by rw [← FF.out];unfold fltK;rw [if_neg qk])
    clear qk
    go_wp2_with fail
    go_returns
    exact ⟨by rw [← FF.out];rfl,by rw [FK.out];exact II.out.sc.next B4.out,II.out.gs.below B4.out⟩
theorem chkL_len {ks:List Tr} {be:List (ByteArray × Nat)} {loc:List ByteArray} {s:Bool} {nm:ByteArray}:∀ (ts:List Tr) (first:Bool) (l:List Int),chkL ks be loc s nm first ts=.inl l→l.length=ts.length
 | [],first,l,h=>by rw [chkL] at h;injection h with h;rw [← h];rfl
 | t :: ts,first,l,h=>by
  rw [chkL] at h
  generalize chk ks be (if (s && !first)=true then nm :: loc else loc) t=r at h
  by_cases c:r.1=0
  ·rw [if_pos c] at h;cases h
  ·rw [if_neg c] at h
   cases hq:chkL ks be loc s nm false ts with
   | inr f=>rw [hq] at h;cases h
   | inl l2 =>
    rw [hq] at h
    simp only at h
    injection h with h
    rw [← h]
    show l2.length+1=ts.length+1
    rw [chkL_len ts false l2 hq]
theorem two_len {x y:Tr} {l:List Int} {ks:List Tr} {be:List (ByteArray × Nat)} {loc:List ByteArray} {s:Bool} {nm:ByteArray} (h:chkL ks be loc s nm true [x,y]=.inl l):∃ a b,l=[a,b]:=by
 have:=chkL_len _ _ _ h
 match l,this with
 | [a,b],_=>exact ⟨_,_,rfl⟩
theorem one_len {x:Tr} {l:List Int} {ks:List Tr} {be:List (ByteArray × Nat)} {loc:List ByteArray} {s:Bool} {nm:ByteArray} (h:chkL ks be loc s nm true [x]=.inl l):∃ a,l=[a]:=by
 have:=chkL_len _ _ _ h
 match l,this with
 | [a],_=>exact ⟨_,rfl⟩
theorem thr_len {x y z:Tr} {l:List Int} {ks:List Tr} {be:List (ByteArray × Nat)} {loc:List ByteArray} {s:Bool} {nm:ByteArray} (h:chkL ks be loc s nm true [x,y,z]=.inl l):∃ a b c,l=[a,b,c]:=by
 have:=chkL_len _ _ _ h
 match l,this with
 | [a,b,c],_=>exact ⟨_,_,_,rfl⟩
theorem kind_good {b0 b1 b2 b3 b4 p:Nat} {ks:List Tr} {be:List (ByteArray × Nat)} (S:Nat→Prop) (hS:∀ g,S g→g≠b4∧g≠p) {m:Nat} {t:Tr} (h:GE m t):∀ loc:List ByteArray,loc.length+m≤100→KCl b0 b1 b2 b3 b4 p ks be S loc t:=by
 have idx2:∀ {x y k:Tr} {i:Nat},[x,y][i]?=some k→k=x∨k=y:=by
  intro x y k i h
  match i,h with
  | 0,h=>simp at h;exact Or.inl h.symm
  | 1,h=>simp at h;exact Or.inr h.symm
  | i+2,h=>simp at h
 have idx1:∀ {x k:Tr} {i:Nat},[x][i]?=some k→k=x:=by
  intro x k i h
  match i,h with
  | 0,h=>simp at h;exact h.symm
  | i+1,h=>simp at h
 induction h with
 | lit m t h =>
  intro loc hloc
  obtain ⟨kind,n,a,h1,h5,rfl⟩:=h
  refine kind_step S hS _ _ _ _ _ [] (by decide) loc (by omega) false rfl (fun i k e=>by simp at e) ?_
  intro l e w f v r kc hv hs hT hk
  rw [chkL] at e
  injection e with e
  subst e
  rw [show nodeK ks be loc sLit ⟨#[]⟩ kind []=((kind:Nat):Int) from by unfold nodeK onl;rw [if_pos (by rfl),if_pos (by simp;omega)]]
  exact node_lit hs _ _ _ _ v hv _ _ h1 h5
 | name m nm a =>
  intro loc hloc
  refine kind_step S hS _ _ _ _ _ [] (by decide) loc (by omega) false rfl (fun i k e=>by simp at e) ?_
  intro l e w f v r kc hv hs hT hk
  rw [chkL] at e
  injection e with e
  subst e
  exact node_name hs _ _ _ _ v hv _ _
 | bin m op a x y ho hx hy ix iy =>
  intro loc hloc
  have ns:eqB op ⟨#[115,117,109]⟩=false:=by
   have ho:=ho
   simp only [ops12,List.mem_cons,List.not_mem_nil,or_false] at ho
   rcases ho with (rfl | rfl | rfl | rfl | rfl | rfl | rfl | rfl | rfl | rfl | rfl | rfl) | rfl | rfl <;> rfl
  refine kind_step S hS _ _ _ _ _ [x,y] (by simp) loc (by omega) false ns (fun i k e=>?_) ?_
  ·rcases idx2 e with rfl | rfl
   ·exact ix loc hloc
   ·exact iy loc hloc
  ·intro l e w f v r kc hv hs hT hk
   obtain ⟨p1,p2,rfl⟩:=two_len e
   rw [show nodeK ks be loc op ⟨#[]⟩ 0 [p1,p2]=binK op p1 p2 from by unfold nodeK;rw [ns];rfl]
   exact node_two _ op _ ho _ _ _ v hv _ _ _ _ w hT hk
 | un m op a x ho hx ix =>
  intro loc hloc
  rcases ho with rfl | rfl | rfl
  all_goals
   refine kind_step S hS _ _ _ _ _ [x] (by simp) loc (by omega) false rfl (fun i k e=>by rw [idx1 e];exact ix loc hloc) ?_
   intro l e w f v r kc hv hs hT hk
   obtain ⟨p1,rfl⟩:=one_len e
  ·exact node_neg hs _ _ _ _ v hv _ _ _ hk
  ·exact node_not hs _ _ _ _ v hv _ _ _ hk
  ·exact node_len hs _ _ _ _ v hv _ _ _ hk
 | at_ m nm a x hx ix =>
  intro loc hloc
  refine kind_step S hS _ _ _ _ _ [x] (by simp) loc (by omega) false rfl (fun i k e=>by rw [idx1 e];exact ix loc hloc) ?_
  intro l e w f v r kc hv hs hT hk
  obtain ⟨p1,rfl⟩:=one_len e
  exact node_at hs _ _ _ _ v hv _ _ _ hk
 | iff m a x y z hx hy hz ix iy iz =>
  intro loc hloc
  refine kind_step S hS _ _ _ _ _ [x,y,z] (by simp) loc (by omega) false rfl (fun i k e=>?_) ?_
  ·match i,e with
   | 0,e=>simp at e;rw [← e];exact ix loc hloc
   | 1,e=>simp at e;rw [← e];exact iy loc hloc
   | 2,e=>simp at e;rw [← e];exact iz loc hloc
   | i+3,e=>simp at e
  ·intro l e w f v r kc hv hs hT hk
   obtain ⟨p1,p2,p3,rfl⟩:=thr_len e
   exact node_if _ _ _ _ _ v hv _ _ _ _ _ w hk
 | sum m nm a x y hx hy ix iy =>
  intro loc hloc
  refine kind_step S hS _ _ _ _ _ [x,y] (by simp) loc (by omega) true rfl (fun i k e=>?_) ?_
  ·have hb:∀ b:Bool,(if b=true then nm :: loc else loc).length+m≤100:=by
    intro b
    cases b
    ·show loc.length+m≤100;omega
    ·show loc.length+1+m≤100;omega
   rcases idx2 e with rfl | rfl
   ·exact ix _ (hb _)
   ·exact iy _ (hb _)
  ·intro l e w f v r kc hv hs hT hk
   obtain ⟨p1,p2,rfl⟩:=two_len e
   exact node_sum hs _ _ _ _ v hv _ _ _ _ hk
end Go.Proofs.YteknljnjcoehoaaGreatDoor
