/- Parts of the proof. -/
import Derived.Test.YtbeahnehjannpaaDoorJQ
import Derived.Test.YtbeahnehjannpaaDoorJR
import Derived.Test.YtbeahnehjannpaaDoorJm
namespace Go.Proofs.YtbeahnehjannpaaDoor
open Go.RowKit
set_option linter.unusedVariables false
set_option linter.unusedSimpArgs false
theorem sl_text (o:UInt8) (a b:Nat):((((((⟨#[114,117,108,101,32,114,32,99,111,117,110,116,32,61,32]⟩:ByteArray) ++ tx (dec a)) ++ ⟨#[32]⟩) ++ ⟨#[o]⟩) ++ ⟨#[32]⟩) ++ tx (dec b)) ++ ⟨#[59]⟩=tx (SL [o] a b):=by
 rw [show (⟨#[114,117,108,101,32,114,32,99,111,117,110,116,32,61,32]⟩:ByteArray)=tx [114,117,108,101,32,114,32,99,111,117,110,116,32,61,32] from rfl,show (⟨#[32]⟩:ByteArray)=tx [32] from rfl,show (⟨#[o]⟩:ByteArray)=tx [o] from rfl,show (⟨#[59]⟩:ByteArray)=tx [59] from rfl,tx_cat,tx_cat,tx_cat,tx_cat,tx_cat,tx_cat]
 congr 1
 unfold SL
 simp
theorem sl_size {o:List UInt8} (ho:o.length=1) (a b:Nat):(tx (SL o a b)).size≤3000:=by
 rw [tx_sz]
 have h1:=(dec_len a).2
 have h2:=(dec_len b).2
 unfold SL
 simp [ho]
 omega
mutual
theorem sm_ref:∀ t:Tr,smT t t=true
 | .nd o m k n a ks=>by
  unfold smT
  rw [sm_refL ks]
  simp [eqB]
theorem sm_refL:∀ ts:List Tr,smL ts ts=true
 | []=>by unfold smL;rfl
 | t :: ts=>by unfold smL;rw [sm_ref t,sm_refL ts];rfl
end
set_option maxRecDepth 100000 in
set_option maxHeartbeats 8000000 in
theorem read_l (o:List UInt8) (ho:o ∈ opL) (h1:o.length=1) (a b:Nat) (ha:a≤4503599627370496) (hb:b≤4503599627370496) (w:World):Calls Tryd.prog 6 #[.string (tx (SL o a b))] w fun e w'=>∃ (sa sb:Option Addr) (sm sc sn sd:Nat),e=.returned (.tuple #[.agg #[.string ⟨#[115,116,97,116,117,116,101]⟩,.string ⟨#[]⟩,.int .i64 0,.int .i64 0,.int .i64 0,.slice sa sm sc],.agg #[.string ⟨#[115,116,97,116,117,116,101]⟩,.string ⟨#[]⟩,.int .i64 0,.int .i64 0,.int .i64 0,.slice sb sn sd],.bool true])∧Nd w' (fun _=>True) (.slice sa sm sc) (tS (eS (tx o) a b (15+(dec a).length+1) (15+(dec a).length+3))).kids∧Below w.heap.size w w':=by
 have h:=read_any (tx (SL o a b)) w (sl_size h1 a b)
 unfold RdX at h
 have q:=parse_SL o ho a b ha hb
 rw [show trX (tx (SL o a b))=tS (eS (tx o) a b (15+(dec a).length+1) (15+(dec a).length+3)) from by unfold trX;rw [q],show okX (tx (SL o a b))=true from by unfold okX;rw [q]] at h
 refine h.mono ?_
 rintro e w' ⟨b,sa,sb,sm,sc,sn,sd,rfl,n1,n2⟩
 exact ⟨sa,sb,sm,sc,sn,sd,rfl,n1.keep fun g s l=>⟨trivial,rfl⟩,b⟩
theorem fold_l (e E:Tr) (ge:GX e) (he:fdE e=E) (w:World) (hT:TabU w) (sa:Option Addr) (sm sc:Nat) (h:Nd w (fun _=>True) (.slice sa sm sc) (tS e).kids):Calls Tryd.prog 7 #[.agg #[.string ⟨#[115,116,97,116,117,116,101]⟩,.string ⟨#[]⟩,.int .i64 0,.int .i64 0,.int .i64 0,.slice sa sm sc]] w fun x w'=>∃ (ga ca gb cb:Nat) (ta:Option Addr) (tm tc:Nat),x=.returned (.agg #[.string ⟨#[115,116,97,116,117,116,101]⟩,.string ⟨#[]⟩,.int .i64 0,.int .i64 0,.int .i64 0,.slice (some ⟨ga,0,none⟩) 1 ca])∧w'.cell? ⟨ga,5,none⟩=some (.slice (some ⟨gb,0,none⟩) 1 cb)∧NC w' gb 0 E (.slice ta tm tc)∧Nd w' (fun _=>True) (.slice ta tm tc) E.kids∧Nd w' (fun _=>True) (.slice (some ⟨ga,0,none⟩) 1 ca) (tS E).kids∧Below w.heap.size w w':=by
 have k:=fold_any ⟨#[115,116,97,116,117,116,101]⟩ ⟨#[]⟩ 0 0 0 [.nd ⟨#[114,117,108,101]⟩ ⟨#[114]⟩ 2 0 0 [e]] (by simp) (fun k hk=>by
  obtain rfl:=List.mem_singleton.1 hk
  exact decl_rule ⟨#[114,117,108,101]⟩ ⟨#[114]⟩ 2 0 0 [e] rfl (by simp) (fun x hx=>by
   obtain rfl:=List.mem_singleton.1 hx
   exact (expr_any ge).1)) _ w _ hT ⟨_,rfl,h⟩
 refine k.mono ?_
 rintro x w' ⟨v,rfl,nv,b⟩
 rw [show fdS (.nd ⟨#[115,116,97,116,117,116,101]⟩ ⟨#[]⟩ 0 0 0 [.nd ⟨#[114,117,108,101]⟩ ⟨#[114]⟩ 2 0 0 [e]])=tS E from by
  show Tr.nd ⟨#[115,116,97,116,117,116,101]⟩ ⟨#[]⟩ 0 0 0 [fdD (.nd ⟨#[114,117,108,101]⟩ ⟨#[114]⟩ 2 0 0 [e])]=tS E
  rw [show fdD (.nd ⟨#[114,117,108,101]⟩ ⟨#[114]⟩ 2 0 0 [e])=.nd ⟨#[114,117,108,101]⟩ ⟨#[114]⟩ 2 0 0 [fdE e] from rfl,he]
  rfl] at nv
 obtain ⟨sl,rfl,nd0⟩:=nv
 have nd:Nd w' (fun _=>True) sl [.nd ⟨#[114,117,108,101]⟩ ⟨#[114]⟩ 2 0 0 [E]]:=nd0.keep fun g s l=>⟨trivial,rfl⟩
 obtain ⟨ga,ca,a0,m0,u0,rfl,_,nc1,nd1⟩:=Nd.k1 nd
 have nd1:Nd w' _ (.slice a0 m0 u0) [E]:=nd1
 obtain ⟨gb,cb,a1,m1,u1,e1,_,nc2,nd2⟩:=Nd.k1 nd1
 injection e1 with e1 e2 e3
 subst e1 e2 e3
 exact ⟨ga,ca,gb,u0,a1,m1,u1,rfl,nc1.e5,nc2,nd2,nd,b⟩
set_option maxRecDepth 100000 in
set_option maxHeartbeats 8000000 in
theorem lits_add_yes (a b:Nat) (ha:a≤4503599627370496) (hb:b≤4503599627370496) (V:Int) (hV:IntKind.i64.wrap ((a:Int)+(b:Int))=V) (hV2:wrap64 ((a:Int)+(b:Int))=V) (hS:¬ (4503599627370496:Int)<V) (hE:fdE (eS ⟨#[43]⟩ a b (15+(dec a).length+1) (15+(dec a).length+3))=.nd ⟨#[108,105,116]⟩ ⟨#[]⟩ 2 V (15+(dec a).length+1) []) (w:World) (hT:TabU w):Calls Tryd.prog 3 #[.int .i64 (a:Nat),.int .i64 (b:Nat),.int .i64 0] w fun e w'=>e=.returned (.bool true)∧Below w.heap.size w w':=by
 have HT:=hid hT
 have KA:=hid (awakeF w hT)
 have KR:=hid (fun W=>read_l [43] (by simp [opL]) rfl a b ha hb W)
 rw [← sl_text] at KR
 rw [show tx [43]=⟨#[43]⟩ from rfl] at KR
 have L1:=hid (fun W=>lit_2 a W ha)
 have L2:=hid (fun W=>lit_2 b W hb)
 have GE':=hid (gx_eS (o:=⟨#[43]⟩) rfl rfl (a:=a) (b:=b) (p:=15+(dec a).length+1) (q:=15+(dec a).length+3) ha hb)
 obtain ⟨E,hE2⟩:∃ E,fdE (eS ⟨#[43]⟩ a b (15+(dec a).length+1) (15+(dec a).length+3))=E:=⟨_,rfl⟩
 have KF:=hid (fun W hW sa sm sc h=>fold_l (eS ⟨#[43]⟩ a b (15+(dec a).length+1) (15+(dec a).length+3)) E GE'.out hE2 W hW sa sm sc h)
 have z1:(tx (dec a)).size≤21:=by rw [tx_sz];exact (dec_len a).2
 have z2:(tx (dec b)).size≤21:=by rw [tx_sz];exact (dec_len b).2
 rw [hE] at hE2
 have EK:E.kids=[]:=by rw [← hE2];rfl
 have EN:E.n=V:=by rw [← hE2];rfl
 have EO:(E.op.toList==[108,105,116])=true:=by rw [← hE2];exact (eqL _ _).trans rfl
 have KZ:=hid (show ∀ W,Calls Tryd.prog 9 #[.agg #[.string E.op,.string E.name,.int .i64 (E.kind:Nat),.int .i64 V,.int .i64 (E.pl:Nat),.slice none 0 0]] W fun e w'=>e=.returned (.int .i64 1)∧Below W.heap.size W w' from fun W=>by
  have sz:szT E=1:=by rw [← hE2,szT];rfl
  have k:=size_any (t:=E) (.mk _ (by rw [EK];decide) (fun k hk=>by rw [EK] at hk;simp at hk)) (fun _=>True) W (.agg #[.string E.op,.string E.name,.int .i64 (E.kind:Nat),.int .i64 E.n,.int .i64 (E.pl:Nat),.slice none 0 0]) (by rw [sz];decide) ⟨_,rfl,by rw [EK];exact .nil⟩
  rw [sz,EN] at k
  exact k)
 replace EN:=hid EN
 replace EK:=hid EK
 clear hE hE2
 clear hT GE'
 generalize tx (dec a)=DA at *
 generalize tx (dec b)=DB at *
 have a0:¬ (a:Int)<0:=by omega
 have a1:¬ (4503599627370496:Int)<(a:Int):=by omega
 have b0:¬ (b:Int)<0:=by omega
 have b1:¬ (4503599627370496:Int)<(b:Int):=by omega
 clear ha hb
 generalize (tS (eS ⟨#[43]⟩ a b (15+(dec a).length+1) (15+(dec a).length+3))).kids=NK at *
 go_enter Tryd.func3,Tryd.ntmps3
 go_upto_region 3 with (go_at_call 4;(with_reducible refine Calls.mono KA.out ?_);rintro e w2 ⟨rfl,b2⟩;have B2:=hid b2;clear b2)
 have bX:=(show Below w2.heap.size w2 (w2.alloc (.cells #[.string ⟨#[43]⟩,.string ⟨#[45]⟩,.string ⟨#[42]⟩,.string ⟨#[47]⟩] 9)) from (Below.refl _ _).alloc (Nat.le_refl _) _)
 have B3:=hid (nextB B2.out bX)
 have RC:=hid (show (w2.alloc (.cells #[.string ⟨#[43]⟩,.string ⟨#[45]⟩,.string ⟨#[42]⟩,.string ⟨#[47]⟩] 9)).cell? ⟨w2.heap.size,0,none⟩=some (.string ⟨#[43]⟩) from by simp)
 clear bX B2 KA
 go_upto_region 6 with fail
 clear a0 a1 b0 b1
 generalize World.alloc w2 _=w3 at *
 generalize w2.heap.size=q3 at *
 refine wp_region_held_drew (S:=fun W=>Below w3.heap.size w3 W) (by kernel_rfl) (Below.refl _ _).drew (fun hHeld=>?_)
 have BB:=hid (show Below w3.heap.size w3 w3.drew from (Below.refl _ _).drew)
 generalize w3.drew=v0 at *
 refine tkq 0 (.int .i64 (a:Nat)) 41 rfl rfl rfl (by kernel_rfl) (fun _ _ _ h=>h) (by rfl) hHeld ?_ ?_
 ·(intro W hW;(try dsimp only at hW);go_simp)
 try simp only [Act.put,List.setIfInBounds_toArray,List.set_cons_zero,List.set_cons_succ]
 refine tkq 4 (.slice (some ⟨q3,0,none⟩) 4 4) 45 rfl rfl rfl (by kernel_rfl) (fun _ _ _ h=>h) (by rfl) hHeld ?_ ?_
 ·(intro W hW;(try dsimp only at hW);go_simp)
 try simp only [Act.put,List.setIfInBounds_toArray,List.set_cons_zero,List.set_cons_succ]
 refine tkq 5 (.int .i64 0) 46 rfl rfl rfl (by kernel_rfl) (fun _ _ _ h=>h) (by rfl) hHeld ?_ ?_
 ·(intro W hW;(try dsimp only at hW);go_simp)
 try simp only [Act.put,List.setIfInBounds_toArray,List.set_cons_zero,List.set_cons_succ]
 refine tkq 6 (.pointer (some ⟨q3,0,none⟩)) 47 rfl rfl rfl (by kernel_rfl) (fun _ _ _ h=>h) (by rfl) hHeld ?_ ?_
 ·(intro W hW;(try dsimp only at hW);go_simp)
 try simp only [Act.put,List.setIfInBounds_toArray,List.set_cons_zero,List.set_cons_succ]
 refine tkq 7 (.string ⟨#[43]⟩) 48 rfl rfl rfl (by kernel_rfl) (fun _ _ _ h=>h) (by rfl) hHeld ?_ ?_
 ·(intro W hW;(try dsimp only at hW);have rc:=cellB hW RC.out;go_simp)
 try simp only [Act.put,List.setIfInBounds_toArray,List.set_cons_zero,List.set_cons_succ]
 refine tkq 10 (.int .i64 (b:Nat)) 51 rfl rfl rfl (by kernel_rfl) (fun _ _ _ h=>h) (by rfl) hHeld ?_ ?_
 ·(intro W hW;(try dsimp only at hW);go_simp)
 try simp only [Act.put,List.setIfInBounds_toArray,List.set_cons_zero,List.set_cons_succ]
 refine wpAnyH_ready (rs:=[1]) (by kernel_rfl) (by simp) ?_
 refine cons2 rfl rfl (fun K9 hK=>?_)
 have KV:=hid (L1.out v0)
 go_simp
 refine Calls.mono KV.out ?_
 rintro e9 v1 ⟨rfl,b7⟩
 clear KV
 have BN:=hid (nextB BB.out b7)
 clear b7
 go_wp2_with fail
 refine hK.out _ _ BN.out (fun hX=>?_)
 clear hK K9 hHeld
 have hHeld:=hX
 clear hX
 try simp only [Act.put,List.setIfInBounds_toArray,List.set_cons_zero,List.set_cons_succ]
 clear BB
 have BB:=BN
 clear BN
 refine tkq 2 (.string (⟨#[114,117,108,101,32,114,32,99,111,117,110,116,32,61,32]⟩ ++ DA)) 43 rfl rfl rfl (by kernel_rfl) (fun _ _ _ h=>h) (by rfl) hHeld ?_ ?_
 ·(intro W hW;(try dsimp only at hW);go_simp;try omega)
 try simp only [Act.put,List.setIfInBounds_toArray,List.set_cons_zero,List.set_cons_succ]
 refine tkq 3 (.string ((⟨#[114,117,108,101,32,114,32,99,111,117,110,116,32,61,32]⟩ ++ DA) ++ ⟨#[32]⟩)) 44 rfl rfl rfl (by kernel_rfl) (fun _ _ _ h=>h) (by rfl) hHeld ?_ ?_
 ·(intro W hW;(try dsimp only at hW);go_simp;try omega)
 try simp only [Act.put,List.setIfInBounds_toArray,List.set_cons_zero,List.set_cons_succ]
 refine tkq 8 (.string (((⟨#[114,117,108,101,32,114,32,99,111,117,110,116,32,61,32]⟩ ++ DA) ++ ⟨#[32]⟩) ++ ⟨#[43]⟩)) 49 rfl rfl rfl (by kernel_rfl) (fun _ _ _ h=>h) (by rfl) hHeld ?_ ?_
 ·(intro W hW;(try dsimp only at hW);go_simp;try omega)
 try simp only [Act.put,List.setIfInBounds_toArray,List.set_cons_zero,List.set_cons_succ]
 refine tkq 9 (.string ((((⟨#[114,117,108,101,32,114,32,99,111,117,110,116,32,61,32]⟩ ++ DA) ++ ⟨#[32]⟩) ++ ⟨#[43]⟩) ++ ⟨#[32]⟩)) 50 rfl rfl rfl (by kernel_rfl) (fun _ _ _ h=>h) (by rfl) hHeld ?_ ?_
 ·(intro W hW;(try dsimp only at hW);go_simp;try omega)
 try simp only [Act.put,List.setIfInBounds_toArray,List.set_cons_zero,List.set_cons_succ]
 refine wpAnyH_ready (rs:=[11]) (by kernel_rfl) (by simp) ?_
 refine cons2 rfl rfl (fun K9 hK=>?_)
 have KV:=hid (L2.out v1)
 go_simp
 refine Calls.mono KV.out ?_
 rintro e9 v2 ⟨rfl,b7⟩
 clear KV
 have BN:=hid (nextB BB.out b7)
 clear b7
 go_wp2_with fail
 refine hK.out _ _ BN.out (fun hX=>?_)
 clear hK K9 hHeld
 have hHeld:=hX
 clear hX
 try simp only [Act.put,List.setIfInBounds_toArray,List.set_cons_zero,List.set_cons_succ]
 clear BB
 have BB:=BN
 clear BN
 refine tkq 12 (.string (((((⟨#[114,117,108,101,32,114,32,99,111,117,110,116,32,61,32]⟩ ++ DA) ++ ⟨#[32]⟩) ++ ⟨#[43]⟩) ++ ⟨#[32]⟩) ++ DB)) 53 rfl rfl rfl (by kernel_rfl) (fun _ _ _ h=>h) (by rfl) hHeld ?_ ?_
 ·(intro W hW;(try dsimp only at hW);go_simp;try omega)
 try simp only [Act.put,List.setIfInBounds_toArray,List.set_cons_zero,List.set_cons_succ]
 refine tkq 13 (.string ((((((⟨#[114,117,108,101,32,114,32,99,111,117,110,116,32,61,32]⟩ ++ DA) ++ ⟨#[32]⟩) ++ ⟨#[43]⟩) ++ ⟨#[32]⟩) ++ DB) ++ ⟨#[59]⟩)) 54 rfl rfl rfl (by kernel_rfl) (fun _ _ _ h=>h) (by rfl) hHeld ?_ ?_
 ·(intro W hW;(try dsimp only at hW);go_simp;try omega)
 try simp only [Act.put,List.setIfInBounds_toArray,List.set_cons_zero,List.set_cons_succ]
 refine tkq 14 (.string ((((((⟨#[114,117,108,101,32,114,32,99,111,117,110,116,32,61,32]⟩ ++ DA) ++ ⟨#[32]⟩) ++ ⟨#[43]⟩) ++ ⟨#[32]⟩) ++ DB) ++ ⟨#[59]⟩)) 8 rfl rfl rfl (by kernel_rfl) (fun _ _ _ h=>h) (by rfl) hHeld ?_ ?_
 ·(intro W hW;(try dsimp only at hW);go_simp)
 try simp only [Act.put,List.setIfInBounds_toArray,List.set_cons_zero,List.set_cons_succ]
 refine wpAnyH_done (by kernel_rfl) ?_ _
 have B5:=hid (nextB B3.out BB.out)
 clear BB B3 RC hHeld L1 L2
 have kr:=hid (KR.out v2)
 generalize ((((((⟨#[114,117,108,101,32,114,32,99,111,117,110,116,32,61,32]⟩ ++ DA) ++ ⟨#[32]⟩) ++ ⟨#[43]⟩) ++ ⟨#[32]⟩) ++ DB) ++ ⟨#[59]⟩)=TX at *
 clear KR z1 z2
 go_upto_region 8 with (go_at_call 6;(with_reducible refine Calls.mono kr.out ?_);rintro e w7 ⟨sa,sb,sm,sc,sn,sd,rfl,n7,b7⟩;have B7:=hid (nextB B5.out b7);have N7:=hid n7;clear n7 b7)
 have bX:=(show Below w7.heap.size w7 ((w7.alloc (.cells #[.string ⟨#[115,116,97,116,117,116,101]⟩,.string ⟨#[]⟩,.int .i64 0,.int .i64 0,.int .i64 0,.slice sa sm sc] 28)).alloc (.cells #[.string ⟨#[115,116,97,116,117,116,101]⟩,.string ⟨#[]⟩,.int .i64 0,.int .i64 0,.int .i64 0,.slice sb sn sd] 31)) from ((Below.refl _ _).alloc (Nat.le_refl _) _).alloc (by simp) _)
 have B8:=hid (nextB B7.out bX)
 have X8:=hid (show B6 ((w7.alloc (.cells #[.string ⟨#[115,116,97,116,117,116,101]⟩,.string ⟨#[]⟩,.int .i64 0,.int .i64 0,.int .i64 0,.slice sa sm sc] 28)).alloc (.cells #[.string ⟨#[115,116,97,116,117,116,101]⟩,.string ⟨#[]⟩,.int .i64 0,.int .i64 0,.int .i64 0,.slice sb sn sd] 31)) w7.heap.size (.string ⟨#[115,116,97,116,117,116,101]⟩) (.string ⟨#[]⟩) (.int .i64 0) (.int .i64 0) (.int .i64 0) (.slice sa sm sc) from (B6.new w7 28 (.string ⟨#[115,116,97,116,117,116,101]⟩) (.string ⟨#[]⟩) (.int .i64 0) (.int .i64 0) (.int .i64 0) (.slice sa sm sc)).next ((Below.refl _ _).alloc (Nat.le_refl _) _))
 have N8:=hid (N7.out.any bX)
 clear bX N7 B7 kr B5
 generalize World.alloc (World.alloc w7 _) _=w8 at *
 generalize w7.heap.size=q8 at *
 have kf:=hid (KF.out w8 (HT.out.next B8.out) sa sm sc N8.out)
 clear KF
 obtain ⟨x0,x1,x2,x3,x4,x5,xz⟩:=X8.out
 go_upto_region 9 with (go_at_call 7;(with_reducible refine Calls.mono kf.out ?_);rintro e w9 ⟨ga,ca,gb,cb,ta,tm,tc,rfl,r5,nc,nk,nm,b9⟩;have B9:=hid (nextB B8.out b9);have X9:=hid (X8.out.next b9);have N9:=hid (N8.out.any b9);have R9:=hid r5;have C9:=hid nc;have K9:=hid nk;have M9:=hid nm;clear r5 nc nk nm b9)
 clear x0 x1 x2 x3 x4 x5 xz X8 N8 B8 kf HT
 have bX:=(show Below w9.heap.size w9 (w9.alloc (.cells #[.string ⟨#[115,116,97,116,117,116,101]⟩,.string ⟨#[]⟩,.int .i64 0,.int .i64 0,.int .i64 0,.slice (some ⟨ga,0,none⟩) 1 ca] 28)) from (Below.refl _ _).alloc (Nat.le_refl _) _)
 have B10:=hid (nextB B9.out bX)
 have X10:=hid (X9.out.next bX)
 have Y10:=hid (B6.new w9 28 (.string ⟨#[115,116,97,116,117,116,101]⟩) (.string ⟨#[]⟩) (.int .i64 0) (.int .i64 0) (.int .i64 0) (.slice (some ⟨ga,0,none⟩) 1 ca))
 have N10:=hid (N9.out.any bX)
 have R10:=hid (cellB bX R9.out)
 have C10:=hid (C9.out.keep (bX.block _ (World.block_lt_of_cell? _ _ C9.out.e0)))
 have K10:=hid (K9.out.any bX)
 have M10:=hid (M9.out.any bX)
 clear bX B9 X9 N9 R9 C9 K9 M9
 generalize World.alloc w9 _=w10 at *
 generalize w9.heap.size=q10 at *
 obtain ⟨y0,y1,y2,y3,y4,y5,yz⟩:=Y10.out
 obtain ⟨k0,k1,k2,k3,k4,k5⟩:=C10.out
 have r5:=R10.out
 go_upto_region 12 with fail
 clear y0 y1 y2 y3 y4 y5 yz k0 k1 k2 k3 k4 k5 r5
 have bX:=(show Below w10.heap.size w10 (w10.alloc (.cells #[.string E.op,.string E.name,.int .i64 (E.kind:Nat),.int .i64 E.n,.int .i64 (E.pl:Nat),.slice ta tm tc] 28)) from (Below.refl _ _).alloc (Nat.le_refl _) _)
 have B11:=hid (nextB B10.out bX)
 have X11:=hid (X10.out.next bX)
 have Y11:=hid (Y10.out.next bX)
 have N11:=hid (N10.out.any bX)
 have M11:=hid (M10.out.any bX)
 have Z11:=hid (B6.new w10 28 (.string E.op) (.string E.name) (.int .i64 (E.kind:Nat)) (.int .i64 E.n) (.int .i64 (E.pl:Nat)) (.slice ta tm tc))
 clear bX B10 X10 Y10 N10 R10 C10 M10
 generalize World.alloc w10 _=w11 at *
 generalize w10.heap.size=q11 at *
 have es:Value.slice ta tm tc=.slice none 0 0:=Nd.k0 (by have:=K10.out;rw [EK.out] at this;exact this)
 injection es with e1 e2 e3
 subst e1 e2 e3
 rw [EN.out] at Z11
 clear K10 N11 M11 X11 Y11 EN EK
 obtain ⟨x0,x1,x2,x3,x4,x5,xz⟩:=Z11.out
 have kz:=hid (KZ.out w11)
 clear KZ Z11
 go_wp2_with (go_at_call 9;(with_reducible refine Calls.mono kz.out ?_);rintro e w12 ⟨rfl,b12⟩;have BZ:=hid (nextB B11.out b12);clear b12)
 go_returns
 exact ⟨rfl,BZ.out⟩
set_option maxRecDepth 100000 in
set_option maxHeartbeats 8000000 in
theorem lits_add_no (a b:Nat) (ha:a≤4503599627370496) (hb:b≤4503599627370496) (V:Int) (hV:IntKind.i64.wrap ((a:Int)+(b:Int))=V) (hV2:wrap64 ((a:Int)+(b:Int))=V) (hS:(4503599627370496:Int)<V) (hE:fdE (eS ⟨#[43]⟩ a b (15+(dec a).length+1) (15+(dec a).length+3))=eS ⟨#[43]⟩ a b (15+(dec a).length+1) (15+(dec a).length+3)) (w:World) (hT:TabU w):Calls Tryd.prog 3 #[.int .i64 (a:Nat),.int .i64 (b:Nat),.int .i64 0] w fun e w'=>e=.returned (.bool true)∧Below w.heap.size w w':=by
 have HT:=hid hT
 have KA:=hid (awakeF w hT)
 have KR:=hid (fun W=>read_l [43] (by simp [opL]) rfl a b ha hb W)
 rw [← sl_text] at KR
 rw [show tx [43]=⟨#[43]⟩ from rfl] at KR
 have L1:=hid (fun W=>lit_2 a W ha)
 have L2:=hid (fun W=>lit_2 b W hb)
 have GE':=hid (gx_eS (o:=⟨#[43]⟩) rfl rfl (a:=a) (b:=b) (p:=15+(dec a).length+1) (q:=15+(dec a).length+3) ha hb)
 obtain ⟨E,hE2⟩:∃ E,fdE (eS ⟨#[43]⟩ a b (15+(dec a).length+1) (15+(dec a).length+3))=E:=⟨_,rfl⟩
 have KF:=hid (fun W hW sa sm sc h=>fold_l (eS ⟨#[43]⟩ a b (15+(dec a).length+1) (15+(dec a).length+3)) E GE'.out hE2 W hW sa sm sc h)
 have z1:(tx (dec a)).size≤21:=by rw [tx_sz];exact (dec_len a).2
 have z2:(tx (dec b)).size≤21:=by rw [tx_sz];exact (dec_len b).2
 rw [hE] at hE2
 have KM:=hid (show ∀ W aa am ac ba bm bc,Nd W (fun _=>True) (.slice aa am ac) (tS E).kids→Nd W (fun _=>True) (.slice ba bm bc) (tS (eS ⟨#[43]⟩ a b (15+(dec a).length+1) (15+(dec a).length+3))).kids→Calls Tryd.prog 8 #[.agg #[.string ⟨#[115,116,97,116,117,116,101]⟩,.string ⟨#[]⟩,.int .i64 0,.int .i64 0,.int .i64 0,.slice aa am ac],.agg #[.string ⟨#[115,116,97,116,117,116,101]⟩,.string ⟨#[]⟩,.int .i64 0,.int .i64 0,.int .i64 0,.slice ba bm bc]] W fun e w'=>e=.returned (.bool true)∧Below W.heap.size W w' from fun W aa am ac ba bm bc h1 h2=>by
  have nw:Nw (tS E):=by
   rw [← hE2]
   refine .nd _ _ _ _ _ _ (by simp) (fun t ht=>?_)
   simp only [List.mem_cons,List.not_mem_nil,or_false] at ht
   subst ht
   refine .nd _ _ _ _ _ _ (by simp) (fun t ht=>?_)
   simp only [List.mem_cons,List.not_mem_nil,or_false] at ht
   subst ht
   refine .nd _ _ _ _ _ _ (by simp) (fun t ht=>?_)
   simp only [List.mem_cons,List.not_mem_nil,or_false] at ht
   rcases ht with rfl | rfl
   ·exact .nd _ _ _ _ _ [] (by decide) (fun t h=>by simp at h)
   ·exact .nd _ _ _ _ _ [] (by decide) (fun t h=>by simp at h)
  rw [hE2] at h2
  have k:=same_any nw (tS E) W (fun _=>True) aa ba am ac bm bc h1 h2
  rw [sm_ref] at k
  exact k)
 clear hE hE2
 clear hT GE'
 generalize tx (dec a)=DA at *
 generalize tx (dec b)=DB at *
 have a0:¬ (a:Int)<0:=by omega
 have a1:¬ (4503599627370496:Int)<(a:Int):=by omega
 have b0:¬ (b:Int)<0:=by omega
 have b1:¬ (4503599627370496:Int)<(b:Int):=by omega
 clear ha hb
 generalize (tS (eS ⟨#[43]⟩ a b (15+(dec a).length+1) (15+(dec a).length+3))).kids=NK at *
 go_enter Tryd.func3,Tryd.ntmps3
 go_upto_region 3 with (go_at_call 4;(with_reducible refine Calls.mono KA.out ?_);rintro e w2 ⟨rfl,b2⟩;have B2:=hid b2;clear b2)
 have bX:=(show Below w2.heap.size w2 (w2.alloc (.cells #[.string ⟨#[43]⟩,.string ⟨#[45]⟩,.string ⟨#[42]⟩,.string ⟨#[47]⟩] 9)) from (Below.refl _ _).alloc (Nat.le_refl _) _)
 have B3:=hid (nextB B2.out bX)
 have RC:=hid (show (w2.alloc (.cells #[.string ⟨#[43]⟩,.string ⟨#[45]⟩,.string ⟨#[42]⟩,.string ⟨#[47]⟩] 9)).cell? ⟨w2.heap.size,0,none⟩=some (.string ⟨#[43]⟩) from by simp)
 clear bX B2 KA
 go_upto_region 6 with fail
 clear a0 a1 b0 b1
 generalize World.alloc w2 _=w3 at *
 generalize w2.heap.size=q3 at *
 refine wp_region_held_drew (S:=fun W=>Below w3.heap.size w3 W) (by kernel_rfl) (Below.refl _ _).drew (fun hHeld=>?_)
 have BB:=hid (show Below w3.heap.size w3 w3.drew from (Below.refl _ _).drew)
 generalize w3.drew=v0 at *
 refine tkq 0 (.int .i64 (a:Nat)) 41 rfl rfl rfl (by kernel_rfl) (fun _ _ _ h=>h) (by rfl) hHeld ?_ ?_
 ·(intro W hW;(try dsimp only at hW);go_simp)
 try simp only [Act.put,List.setIfInBounds_toArray,List.set_cons_zero,List.set_cons_succ]
 refine tkq 4 (.slice (some ⟨q3,0,none⟩) 4 4) 45 rfl rfl rfl (by kernel_rfl) (fun _ _ _ h=>h) (by rfl) hHeld ?_ ?_
 ·(intro W hW;(try dsimp only at hW);go_simp)
 try simp only [Act.put,List.setIfInBounds_toArray,List.set_cons_zero,List.set_cons_succ]
 refine tkq 5 (.int .i64 0) 46 rfl rfl rfl (by kernel_rfl) (fun _ _ _ h=>h) (by rfl) hHeld ?_ ?_
 ·(intro W hW;(try dsimp only at hW);go_simp)
 try simp only [Act.put,List.setIfInBounds_toArray,List.set_cons_zero,List.set_cons_succ]
 refine tkq 6 (.pointer (some ⟨q3,0,none⟩)) 47 rfl rfl rfl (by kernel_rfl) (fun _ _ _ h=>h) (by rfl) hHeld ?_ ?_
 ·(intro W hW;(try dsimp only at hW);go_simp)
 try simp only [Act.put,List.setIfInBounds_toArray,List.set_cons_zero,List.set_cons_succ]
 refine tkq 7 (.string ⟨#[43]⟩) 48 rfl rfl rfl (by kernel_rfl) (fun _ _ _ h=>h) (by rfl) hHeld ?_ ?_
 ·(intro W hW;(try dsimp only at hW);have rc:=cellB hW RC.out;go_simp)
 try simp only [Act.put,List.setIfInBounds_toArray,List.set_cons_zero,List.set_cons_succ]
 refine tkq 10 (.int .i64 (b:Nat)) 51 rfl rfl rfl (by kernel_rfl) (fun _ _ _ h=>h) (by rfl) hHeld ?_ ?_
 ·(intro W hW;(try dsimp only at hW);go_simp)
 try simp only [Act.put,List.setIfInBounds_toArray,List.set_cons_zero,List.set_cons_succ]
 refine wpAnyH_ready (rs:=[1]) (by kernel_rfl) (by simp) ?_
 refine cons2 rfl rfl (fun K9 hK=>?_)
 have KV:=hid (L1.out v0)
 go_simp
 refine Calls.mono KV.out ?_
 rintro e9 v1 ⟨rfl,b7⟩
 clear KV
 have BN:=hid (nextB BB.out b7)
 clear b7
 go_wp2_with fail
 refine hK.out _ _ BN.out (fun hX=>?_)
 clear hK K9 hHeld
 have hHeld:=hX
 clear hX
 try simp only [Act.put,List.setIfInBounds_toArray,List.set_cons_zero,List.set_cons_succ]
 clear BB
 have BB:=BN
 clear BN
 refine tkq 2 (.string (⟨#[114,117,108,101,32,114,32,99,111,117,110,116,32,61,32]⟩ ++ DA)) 43 rfl rfl rfl (by kernel_rfl) (fun _ _ _ h=>h) (by rfl) hHeld ?_ ?_
 ·(intro W hW;(try dsimp only at hW);go_simp;try omega)
 try simp only [Act.put,List.setIfInBounds_toArray,List.set_cons_zero,List.set_cons_succ]
 refine tkq 3 (.string ((⟨#[114,117,108,101,32,114,32,99,111,117,110,116,32,61,32]⟩ ++ DA) ++ ⟨#[32]⟩)) 44 rfl rfl rfl (by kernel_rfl) (fun _ _ _ h=>h) (by rfl) hHeld ?_ ?_
 ·(intro W hW;(try dsimp only at hW);go_simp;try omega)
 try simp only [Act.put,List.setIfInBounds_toArray,List.set_cons_zero,List.set_cons_succ]
 refine tkq 8 (.string (((⟨#[114,117,108,101,32,114,32,99,111,117,110,116,32,61,32]⟩ ++ DA) ++ ⟨#[32]⟩) ++ ⟨#[43]⟩)) 49 rfl rfl rfl (by kernel_rfl) (fun _ _ _ h=>h) (by rfl) hHeld ?_ ?_
 ·(intro W hW;(try dsimp only at hW);go_simp;try omega)
 try simp only [Act.put,List.setIfInBounds_toArray,List.set_cons_zero,List.set_cons_succ]
 refine tkq 9 (.string ((((⟨#[114,117,108,101,32,114,32,99,111,117,110,116,32,61,32]⟩ ++ DA) ++ ⟨#[32]⟩) ++ ⟨#[43]⟩) ++ ⟨#[32]⟩)) 50 rfl rfl rfl (by kernel_rfl) (fun _ _ _ h=>h) (by rfl) hHeld ?_ ?_
 ·(intro W hW;(try dsimp only at hW);go_simp;try omega)
 try simp only [Act.put,List.setIfInBounds_toArray,List.set_cons_zero,List.set_cons_succ]
 refine wpAnyH_ready (rs:=[11]) (by kernel_rfl) (by simp) ?_
 refine cons2 rfl rfl (fun K9 hK=>?_)
 have KV:=hid (L2.out v1)
 go_simp
 refine Calls.mono KV.out ?_
 rintro e9 v2 ⟨rfl,b7⟩
 clear KV
 have BN:=hid (nextB BB.out b7)
 clear b7
 go_wp2_with fail
 refine hK.out _ _ BN.out (fun hX=>?_)
 clear hK K9 hHeld
 have hHeld:=hX
 clear hX
 try simp only [Act.put,List.setIfInBounds_toArray,List.set_cons_zero,List.set_cons_succ]
 clear BB
 have BB:=BN
 clear BN
 refine tkq 12 (.string (((((⟨#[114,117,108,101,32,114,32,99,111,117,110,116,32,61,32]⟩ ++ DA) ++ ⟨#[32]⟩) ++ ⟨#[43]⟩) ++ ⟨#[32]⟩) ++ DB)) 53 rfl rfl rfl (by kernel_rfl) (fun _ _ _ h=>h) (by rfl) hHeld ?_ ?_
 ·(intro W hW;(try dsimp only at hW);go_simp;try omega)
 try simp only [Act.put,List.setIfInBounds_toArray,List.set_cons_zero,List.set_cons_succ]
 refine tkq 13 (.string ((((((⟨#[114,117,108,101,32,114,32,99,111,117,110,116,32,61,32]⟩ ++ DA) ++ ⟨#[32]⟩) ++ ⟨#[43]⟩) ++ ⟨#[32]⟩) ++ DB) ++ ⟨#[59]⟩)) 54 rfl rfl rfl (by kernel_rfl) (fun _ _ _ h=>h) (by rfl) hHeld ?_ ?_
 ·(intro W hW;(try dsimp only at hW);go_simp;try omega)
 try simp only [Act.put,List.setIfInBounds_toArray,List.set_cons_zero,List.set_cons_succ]
 refine tkq 14 (.string ((((((⟨#[114,117,108,101,32,114,32,99,111,117,110,116,32,61,32]⟩ ++ DA) ++ ⟨#[32]⟩) ++ ⟨#[43]⟩) ++ ⟨#[32]⟩) ++ DB) ++ ⟨#[59]⟩)) 8 rfl rfl rfl (by kernel_rfl) (fun _ _ _ h=>h) (by rfl) hHeld ?_ ?_
 ·(intro W hW;(try dsimp only at hW);go_simp)
 try simp only [Act.put,List.setIfInBounds_toArray,List.set_cons_zero,List.set_cons_succ]
 refine wpAnyH_done (by kernel_rfl) ?_ _
 have B5:=hid (nextB B3.out BB.out)
 clear BB B3 RC hHeld L1 L2
 have kr:=hid (KR.out v2)
 generalize ((((((⟨#[114,117,108,101,32,114,32,99,111,117,110,116,32,61,32]⟩ ++ DA) ++ ⟨#[32]⟩) ++ ⟨#[43]⟩) ++ ⟨#[32]⟩) ++ DB) ++ ⟨#[59]⟩)=TX at *
 clear KR z1 z2
 go_upto_region 8 with (go_at_call 6;(with_reducible refine Calls.mono kr.out ?_);rintro e w7 ⟨sa,sb,sm,sc,sn,sd,rfl,n7,b7⟩;have B7:=hid (nextB B5.out b7);have N7:=hid n7;clear n7 b7)
 have bX:=(show Below w7.heap.size w7 ((w7.alloc (.cells #[.string ⟨#[115,116,97,116,117,116,101]⟩,.string ⟨#[]⟩,.int .i64 0,.int .i64 0,.int .i64 0,.slice sa sm sc] 28)).alloc (.cells #[.string ⟨#[115,116,97,116,117,116,101]⟩,.string ⟨#[]⟩,.int .i64 0,.int .i64 0,.int .i64 0,.slice sb sn sd] 31)) from ((Below.refl _ _).alloc (Nat.le_refl _) _).alloc (by simp) _)
 have B8:=hid (nextB B7.out bX)
 have X8:=hid (show B6 ((w7.alloc (.cells #[.string ⟨#[115,116,97,116,117,116,101]⟩,.string ⟨#[]⟩,.int .i64 0,.int .i64 0,.int .i64 0,.slice sa sm sc] 28)).alloc (.cells #[.string ⟨#[115,116,97,116,117,116,101]⟩,.string ⟨#[]⟩,.int .i64 0,.int .i64 0,.int .i64 0,.slice sb sn sd] 31)) w7.heap.size (.string ⟨#[115,116,97,116,117,116,101]⟩) (.string ⟨#[]⟩) (.int .i64 0) (.int .i64 0) (.int .i64 0) (.slice sa sm sc) from (B6.new w7 28 (.string ⟨#[115,116,97,116,117,116,101]⟩) (.string ⟨#[]⟩) (.int .i64 0) (.int .i64 0) (.int .i64 0) (.slice sa sm sc)).next ((Below.refl _ _).alloc (Nat.le_refl _) _))
 have N8:=hid (N7.out.any bX)
 clear bX N7 B7 kr B5
 generalize World.alloc (World.alloc w7 _) _=w8 at *
 generalize w7.heap.size=q8 at *
 have kf:=hid (KF.out w8 (HT.out.next B8.out) sa sm sc N8.out)
 clear KF
 obtain ⟨x0,x1,x2,x3,x4,x5,xz⟩:=X8.out
 go_upto_region 9 with (go_at_call 7;(with_reducible refine Calls.mono kf.out ?_);rintro e w9 ⟨ga,ca,gb,cb,ta,tm,tc,rfl,r5,nc,nk,nm,b9⟩;have B9:=hid (nextB B8.out b9);have X9:=hid (X8.out.next b9);have N9:=hid (N8.out.any b9);have R9:=hid r5;have C9:=hid nc;have K9:=hid nk;have M9:=hid nm;clear r5 nc nk nm b9)
 clear x0 x1 x2 x3 x4 x5 xz X8 N8 B8 kf HT
 have bX:=(show Below w9.heap.size w9 (w9.alloc (.cells #[.string ⟨#[115,116,97,116,117,116,101]⟩,.string ⟨#[]⟩,.int .i64 0,.int .i64 0,.int .i64 0,.slice (some ⟨ga,0,none⟩) 1 ca] 28)) from (Below.refl _ _).alloc (Nat.le_refl _) _)
 have B10:=hid (nextB B9.out bX)
 have X10:=hid (X9.out.next bX)
 have Y10:=hid (B6.new w9 28 (.string ⟨#[115,116,97,116,117,116,101]⟩) (.string ⟨#[]⟩) (.int .i64 0) (.int .i64 0) (.int .i64 0) (.slice (some ⟨ga,0,none⟩) 1 ca))
 have N10:=hid (N9.out.any bX)
 have R10:=hid (cellB bX R9.out)
 have C10:=hid (C9.out.keep (bX.block _ (World.block_lt_of_cell? _ _ C9.out.e0)))
 have K10:=hid (K9.out.any bX)
 have M10:=hid (M9.out.any bX)
 clear bX B9 X9 N9 R9 C9 K9 M9
 generalize World.alloc w9 _=w10 at *
 generalize w9.heap.size=q10 at *
 obtain ⟨y0,y1,y2,y3,y4,y5,yz⟩:=Y10.out
 obtain ⟨k0,k1,k2,k3,k4,k5⟩:=C10.out
 have r5:=R10.out
 go_upto_region 12 with fail
 clear y0 y1 y2 y3 y4 y5 yz k0 k1 k2 k3 k4 k5 r5
 have bX:=(show Below w10.heap.size w10 (w10.alloc (.cells #[.string E.op,.string E.name,.int .i64 (E.kind:Nat),.int .i64 E.n,.int .i64 (E.pl:Nat),.slice ta tm tc] 28)) from (Below.refl _ _).alloc (Nat.le_refl _) _)
 have B11:=hid (nextB B10.out bX)
 have X11:=hid (X10.out.next bX)
 have Y11:=hid (Y10.out.next bX)
 have N11:=hid (N10.out.any bX)
 have M11:=hid (M10.out.any bX)
 have Z11:=hid (B6.new w10 28 (.string E.op) (.string E.name) (.int .i64 (E.kind:Nat)) (.int .i64 E.n) (.int .i64 (E.pl:Nat)) (.slice ta tm tc))
 clear bX B10 X10 Y10 N10 R10 C10 M10
 generalize World.alloc w10 _=w11 at *
 generalize w10.heap.size=q11 at *
 have km:=hid (KM.out w11 _ _ _ _ _ _ M11.out N11.out)
 obtain ⟨x0,x1,x2,x3,x4,x5,xz⟩:=X11.out
 obtain ⟨y0,y1,y2,y3,y4,y5,yz⟩:=Y11.out
 clear K10 N11 M11 X11 Y11 Z11 KM
 go_wp2_with (go_at_call 8;(with_reducible refine Calls.mono km.out ?_);rintro e w12 ⟨rfl,b12⟩;have BZ:=hid (nextB B11.out b12);clear b12)
 go_returns
 exact ⟨rfl,BZ.out⟩
set_option maxRecDepth 100000 in
set_option maxHeartbeats 8000000 in
theorem lits_sub (a b:Nat) (ha:a≤4503599627370496) (hb:b≤4503599627370496) (V:Int) (hV:IntKind.i64.wrap ((a:Int) - (b:Int))=V) (hV2:wrap64 ((a:Int) - (b:Int))=V) (hS:¬ (4503599627370496:Int)<V) (hE:fdE (eS ⟨#[45]⟩ a b (15+(dec a).length+1) (15+(dec a).length+3))=.nd ⟨#[108,105,116]⟩ ⟨#[]⟩ 2 V (15+(dec a).length+1) []) (w:World) (hT:TabU w):Calls Tryd.prog 3 #[.int .i64 (a:Nat),.int .i64 (b:Nat),.int .i64 1] w fun e w'=>e=.returned (.bool true)∧Below w.heap.size w w':=by
 have HT:=hid hT
 have KA:=hid (awakeF w hT)
 have KR:=hid (fun W=>read_l [45] (by simp [opL]) rfl a b ha hb W)
 rw [← sl_text] at KR
 rw [show tx [45]=⟨#[45]⟩ from rfl] at KR
 have L1:=hid (fun W=>lit_2 a W ha)
 have L2:=hid (fun W=>lit_2 b W hb)
 have GE':=hid (gx_eS (o:=⟨#[45]⟩) rfl rfl (a:=a) (b:=b) (p:=15+(dec a).length+1) (q:=15+(dec a).length+3) ha hb)
 obtain ⟨E,hE2⟩:∃ E,fdE (eS ⟨#[45]⟩ a b (15+(dec a).length+1) (15+(dec a).length+3))=E:=⟨_,rfl⟩
 have KF:=hid (fun W hW sa sm sc h=>fold_l (eS ⟨#[45]⟩ a b (15+(dec a).length+1) (15+(dec a).length+3)) E GE'.out hE2 W hW sa sm sc h)
 have z1:(tx (dec a)).size≤21:=by rw [tx_sz];exact (dec_len a).2
 have z2:(tx (dec b)).size≤21:=by rw [tx_sz];exact (dec_len b).2
 rw [hE] at hE2
 have EK:E.kids=[]:=by rw [← hE2];rfl
 have EN:E.n=V:=by rw [← hE2];rfl
 have EO:(E.op.toList==[108,105,116])=true:=by rw [← hE2];exact (eqL _ _).trans rfl
 have KZ:=hid (show ∀ W,Calls Tryd.prog 9 #[.agg #[.string E.op,.string E.name,.int .i64 (E.kind:Nat),.int .i64 V,.int .i64 (E.pl:Nat),.slice none 0 0]] W fun e w'=>e=.returned (.int .i64 1)∧Below W.heap.size W w' from fun W=>by
  have sz:szT E=1:=by rw [← hE2,szT];rfl
  have k:=size_any (t:=E) (.mk _ (by rw [EK];decide) (fun k hk=>by rw [EK] at hk;simp at hk)) (fun _=>True) W (.agg #[.string E.op,.string E.name,.int .i64 (E.kind:Nat),.int .i64 E.n,.int .i64 (E.pl:Nat),.slice none 0 0]) (by rw [sz];decide) ⟨_,rfl,by rw [EK];exact .nil⟩
  rw [sz,EN] at k
  exact k)
 replace EN:=hid EN
 replace EK:=hid EK
 clear hE hE2
 clear hT GE'
 generalize tx (dec a)=DA at *
 generalize tx (dec b)=DB at *
 have a0:¬ (a:Int)<0:=by omega
 have a1:¬ (4503599627370496:Int)<(a:Int):=by omega
 have b0:¬ (b:Int)<0:=by omega
 have b1:¬ (4503599627370496:Int)<(b:Int):=by omega
 clear ha hb
 generalize (tS (eS ⟨#[45]⟩ a b (15+(dec a).length+1) (15+(dec a).length+3))).kids=NK at *
 go_enter Tryd.func3,Tryd.ntmps3
 go_upto_region 3 with (go_at_call 4;(with_reducible refine Calls.mono KA.out ?_);rintro e w2 ⟨rfl,b2⟩;have B2:=hid b2;clear b2)
 have bX:=(show Below w2.heap.size w2 (w2.alloc (.cells #[.string ⟨#[43]⟩,.string ⟨#[45]⟩,.string ⟨#[42]⟩,.string ⟨#[47]⟩] 9)) from (Below.refl _ _).alloc (Nat.le_refl _) _)
 have B3:=hid (nextB B2.out bX)
 have RC:=hid (show (w2.alloc (.cells #[.string ⟨#[43]⟩,.string ⟨#[45]⟩,.string ⟨#[42]⟩,.string ⟨#[47]⟩] 9)).cell? ⟨w2.heap.size,1,none⟩=some (.string ⟨#[45]⟩) from by simp)
 clear bX B2 KA
 go_upto_region 6 with fail
 clear a0 a1 b0 b1
 generalize World.alloc w2 _=w3 at *
 generalize w2.heap.size=q3 at *
 refine wp_region_held_drew (S:=fun W=>Below w3.heap.size w3 W) (by kernel_rfl) (Below.refl _ _).drew (fun hHeld=>?_)
 have BB:=hid (show Below w3.heap.size w3 w3.drew from (Below.refl _ _).drew)
 generalize w3.drew=v0 at *
 refine tkq 0 (.int .i64 (a:Nat)) 41 rfl rfl rfl (by kernel_rfl) (fun _ _ _ h=>h) (by rfl) hHeld ?_ ?_
 ·(intro W hW;(try dsimp only at hW);go_simp)
 try simp only [Act.put,List.setIfInBounds_toArray,List.set_cons_zero,List.set_cons_succ]
 refine tkq 4 (.slice (some ⟨q3,0,none⟩) 4 4) 45 rfl rfl rfl (by kernel_rfl) (fun _ _ _ h=>h) (by rfl) hHeld ?_ ?_
 ·(intro W hW;(try dsimp only at hW);go_simp)
 try simp only [Act.put,List.setIfInBounds_toArray,List.set_cons_zero,List.set_cons_succ]
 refine tkq 5 (.int .i64 1) 46 rfl rfl rfl (by kernel_rfl) (fun _ _ _ h=>h) (by rfl) hHeld ?_ ?_
 ·(intro W hW;(try dsimp only at hW);go_simp)
 try simp only [Act.put,List.setIfInBounds_toArray,List.set_cons_zero,List.set_cons_succ]
 refine tkq 6 (.pointer (some ⟨q3,1,none⟩)) 47 rfl rfl rfl (by kernel_rfl) (fun _ _ _ h=>h) (by rfl) hHeld ?_ ?_
 ·(intro W hW;(try dsimp only at hW);go_simp)
 try simp only [Act.put,List.setIfInBounds_toArray,List.set_cons_zero,List.set_cons_succ]
 refine tkq 7 (.string ⟨#[45]⟩) 48 rfl rfl rfl (by kernel_rfl) (fun _ _ _ h=>h) (by rfl) hHeld ?_ ?_
 ·(intro W hW;(try dsimp only at hW);have rc:=cellB hW RC.out;go_simp)
 try simp only [Act.put,List.setIfInBounds_toArray,List.set_cons_zero,List.set_cons_succ]
 refine tkq 10 (.int .i64 (b:Nat)) 51 rfl rfl rfl (by kernel_rfl) (fun _ _ _ h=>h) (by rfl) hHeld ?_ ?_
 ·(intro W hW;(try dsimp only at hW);go_simp)
 try simp only [Act.put,List.setIfInBounds_toArray,List.set_cons_zero,List.set_cons_succ]
 refine wpAnyH_ready (rs:=[1]) (by kernel_rfl) (by simp) ?_
 refine cons2 rfl rfl (fun K9 hK=>?_)
 have KV:=hid (L1.out v0)
 go_simp
 refine Calls.mono KV.out ?_
 rintro e9 v1 ⟨rfl,b7⟩
 clear KV
 have BN:=hid (nextB BB.out b7)
 clear b7
 go_wp2_with fail
 refine hK.out _ _ BN.out (fun hX=>?_)
 clear hK K9 hHeld
 have hHeld:=hX
 clear hX
 try simp only [Act.put,List.setIfInBounds_toArray,List.set_cons_zero,List.set_cons_succ]
 clear BB
 have BB:=BN
 clear BN
 refine tkq 2 (.string (⟨#[114,117,108,101,32,114,32,99,111,117,110,116,32,61,32]⟩ ++ DA)) 43 rfl rfl rfl (by kernel_rfl) (fun _ _ _ h=>h) (by rfl) hHeld ?_ ?_
 ·(intro W hW;(try dsimp only at hW);go_simp;try omega)
 try simp only [Act.put,List.setIfInBounds_toArray,List.set_cons_zero,List.set_cons_succ]
 refine tkq 3 (.string ((⟨#[114,117,108,101,32,114,32,99,111,117,110,116,32,61,32]⟩ ++ DA) ++ ⟨#[32]⟩)) 44 rfl rfl rfl (by kernel_rfl) (fun _ _ _ h=>h) (by rfl) hHeld ?_ ?_
 ·(intro W hW;(try dsimp only at hW);go_simp;try omega)
 try simp only [Act.put,List.setIfInBounds_toArray,List.set_cons_zero,List.set_cons_succ]
 refine tkq 8 (.string (((⟨#[114,117,108,101,32,114,32,99,111,117,110,116,32,61,32]⟩ ++ DA) ++ ⟨#[32]⟩) ++ ⟨#[45]⟩)) 49 rfl rfl rfl (by kernel_rfl) (fun _ _ _ h=>h) (by rfl) hHeld ?_ ?_
 ·(intro W hW;(try dsimp only at hW);go_simp;try omega)
 try simp only [Act.put,List.setIfInBounds_toArray,List.set_cons_zero,List.set_cons_succ]
 refine tkq 9 (.string ((((⟨#[114,117,108,101,32,114,32,99,111,117,110,116,32,61,32]⟩ ++ DA) ++ ⟨#[32]⟩) ++ ⟨#[45]⟩) ++ ⟨#[32]⟩)) 50 rfl rfl rfl (by kernel_rfl) (fun _ _ _ h=>h) (by rfl) hHeld ?_ ?_
 ·(intro W hW;(try dsimp only at hW);go_simp;try omega)
 try simp only [Act.put,List.setIfInBounds_toArray,List.set_cons_zero,List.set_cons_succ]
 refine wpAnyH_ready (rs:=[11]) (by kernel_rfl) (by simp) ?_
 refine cons2 rfl rfl (fun K9 hK=>?_)
 have KV:=hid (L2.out v1)
 go_simp
 refine Calls.mono KV.out ?_
 rintro e9 v2 ⟨rfl,b7⟩
 clear KV
 have BN:=hid (nextB BB.out b7)
 clear b7
 go_wp2_with fail
 refine hK.out _ _ BN.out (fun hX=>?_)
 clear hK K9 hHeld
 have hHeld:=hX
 clear hX
 try simp only [Act.put,List.setIfInBounds_toArray,List.set_cons_zero,List.set_cons_succ]
 clear BB
 have BB:=BN
 clear BN
 refine tkq 12 (.string (((((⟨#[114,117,108,101,32,114,32,99,111,117,110,116,32,61,32]⟩ ++ DA) ++ ⟨#[32]⟩) ++ ⟨#[45]⟩) ++ ⟨#[32]⟩) ++ DB)) 53 rfl rfl rfl (by kernel_rfl) (fun _ _ _ h=>h) (by rfl) hHeld ?_ ?_
 ·(intro W hW;(try dsimp only at hW);go_simp;try omega)
 try simp only [Act.put,List.setIfInBounds_toArray,List.set_cons_zero,List.set_cons_succ]
 refine tkq 13 (.string ((((((⟨#[114,117,108,101,32,114,32,99,111,117,110,116,32,61,32]⟩ ++ DA) ++ ⟨#[32]⟩) ++ ⟨#[45]⟩) ++ ⟨#[32]⟩) ++ DB) ++ ⟨#[59]⟩)) 54 rfl rfl rfl (by kernel_rfl) (fun _ _ _ h=>h) (by rfl) hHeld ?_ ?_
 ·(intro W hW;(try dsimp only at hW);go_simp;try omega)
 try simp only [Act.put,List.setIfInBounds_toArray,List.set_cons_zero,List.set_cons_succ]
 refine tkq 14 (.string ((((((⟨#[114,117,108,101,32,114,32,99,111,117,110,116,32,61,32]⟩ ++ DA) ++ ⟨#[32]⟩) ++ ⟨#[45]⟩) ++ ⟨#[32]⟩) ++ DB) ++ ⟨#[59]⟩)) 8 rfl rfl rfl (by kernel_rfl) (fun _ _ _ h=>h) (by rfl) hHeld ?_ ?_
 ·(intro W hW;(try dsimp only at hW);go_simp)
 try simp only [Act.put,List.setIfInBounds_toArray,List.set_cons_zero,List.set_cons_succ]
 refine wpAnyH_done (by kernel_rfl) ?_ _
 have B5:=hid (nextB B3.out BB.out)
 clear BB B3 RC hHeld L1 L2
 have kr:=hid (KR.out v2)
 generalize ((((((⟨#[114,117,108,101,32,114,32,99,111,117,110,116,32,61,32]⟩ ++ DA) ++ ⟨#[32]⟩) ++ ⟨#[45]⟩) ++ ⟨#[32]⟩) ++ DB) ++ ⟨#[59]⟩)=TX at *
 clear KR z1 z2
 go_upto_region 8 with (go_at_call 6;(with_reducible refine Calls.mono kr.out ?_);rintro e w7 ⟨sa,sb,sm,sc,sn,sd,rfl,n7,b7⟩;have B7:=hid (nextB B5.out b7);have N7:=hid n7;clear n7 b7)
 have bX:=(show Below w7.heap.size w7 ((w7.alloc (.cells #[.string ⟨#[115,116,97,116,117,116,101]⟩,.string ⟨#[]⟩,.int .i64 0,.int .i64 0,.int .i64 0,.slice sa sm sc] 28)).alloc (.cells #[.string ⟨#[115,116,97,116,117,116,101]⟩,.string ⟨#[]⟩,.int .i64 0,.int .i64 0,.int .i64 0,.slice sb sn sd] 31)) from ((Below.refl _ _).alloc (Nat.le_refl _) _).alloc (by simp) _)
 have B8:=hid (nextB B7.out bX)
 have X8:=hid (show B6 ((w7.alloc (.cells #[.string ⟨#[115,116,97,116,117,116,101]⟩,.string ⟨#[]⟩,.int .i64 0,.int .i64 0,.int .i64 0,.slice sa sm sc] 28)).alloc (.cells #[.string ⟨#[115,116,97,116,117,116,101]⟩,.string ⟨#[]⟩,.int .i64 0,.int .i64 0,.int .i64 0,.slice sb sn sd] 31)) w7.heap.size (.string ⟨#[115,116,97,116,117,116,101]⟩) (.string ⟨#[]⟩) (.int .i64 0) (.int .i64 0) (.int .i64 0) (.slice sa sm sc) from (B6.new w7 28 (.string ⟨#[115,116,97,116,117,116,101]⟩) (.string ⟨#[]⟩) (.int .i64 0) (.int .i64 0) (.int .i64 0) (.slice sa sm sc)).next ((Below.refl _ _).alloc (Nat.le_refl _) _))
 have N8:=hid (N7.out.any bX)
 clear bX N7 B7 kr B5
 generalize World.alloc (World.alloc w7 _) _=w8 at *
 generalize w7.heap.size=q8 at *
 have kf:=hid (KF.out w8 (HT.out.next B8.out) sa sm sc N8.out)
 clear KF
 obtain ⟨x0,x1,x2,x3,x4,x5,xz⟩:=X8.out
 go_upto_region 9 with (go_at_call 7;(with_reducible refine Calls.mono kf.out ?_);rintro e w9 ⟨ga,ca,gb,cb,ta,tm,tc,rfl,r5,nc,nk,nm,b9⟩;have B9:=hid (nextB B8.out b9);have X9:=hid (X8.out.next b9);have N9:=hid (N8.out.any b9);have R9:=hid r5;have C9:=hid nc;have K9:=hid nk;have M9:=hid nm;clear r5 nc nk nm b9)
 clear x0 x1 x2 x3 x4 x5 xz X8 N8 B8 kf HT
 have bX:=(show Below w9.heap.size w9 (w9.alloc (.cells #[.string ⟨#[115,116,97,116,117,116,101]⟩,.string ⟨#[]⟩,.int .i64 0,.int .i64 0,.int .i64 0,.slice (some ⟨ga,0,none⟩) 1 ca] 28)) from (Below.refl _ _).alloc (Nat.le_refl _) _)
 have B10:=hid (nextB B9.out bX)
 have X10:=hid (X9.out.next bX)
 have Y10:=hid (B6.new w9 28 (.string ⟨#[115,116,97,116,117,116,101]⟩) (.string ⟨#[]⟩) (.int .i64 0) (.int .i64 0) (.int .i64 0) (.slice (some ⟨ga,0,none⟩) 1 ca))
 have N10:=hid (N9.out.any bX)
 have R10:=hid (cellB bX R9.out)
 have C10:=hid (C9.out.keep (bX.block _ (World.block_lt_of_cell? _ _ C9.out.e0)))
 have K10:=hid (K9.out.any bX)
 have M10:=hid (M9.out.any bX)
 clear bX B9 X9 N9 R9 C9 K9 M9
 generalize World.alloc w9 _=w10 at *
 generalize w9.heap.size=q10 at *
 obtain ⟨y0,y1,y2,y3,y4,y5,yz⟩:=Y10.out
 obtain ⟨k0,k1,k2,k3,k4,k5⟩:=C10.out
 have r5:=R10.out
 go_upto_region 12 with fail
 clear y0 y1 y2 y3 y4 y5 yz k0 k1 k2 k3 k4 k5 r5
 have bX:=(show Below w10.heap.size w10 (w10.alloc (.cells #[.string E.op,.string E.name,.int .i64 (E.kind:Nat),.int .i64 E.n,.int .i64 (E.pl:Nat),.slice ta tm tc] 28)) from (Below.refl _ _).alloc (Nat.le_refl _) _)
 have B11:=hid (nextB B10.out bX)
 have X11:=hid (X10.out.next bX)
 have Y11:=hid (Y10.out.next bX)
 have N11:=hid (N10.out.any bX)
 have M11:=hid (M10.out.any bX)
 have Z11:=hid (B6.new w10 28 (.string E.op) (.string E.name) (.int .i64 (E.kind:Nat)) (.int .i64 E.n) (.int .i64 (E.pl:Nat)) (.slice ta tm tc))
 clear bX B10 X10 Y10 N10 R10 C10 M10
 generalize World.alloc w10 _=w11 at *
 generalize w10.heap.size=q11 at *
 have es:Value.slice ta tm tc=.slice none 0 0:=Nd.k0 (by have:=K10.out;rw [EK.out] at this;exact this)
 injection es with e1 e2 e3
 subst e1 e2 e3
 rw [EN.out] at Z11
 clear K10 N11 M11 X11 Y11 EN EK
 obtain ⟨x0,x1,x2,x3,x4,x5,xz⟩:=Z11.out
 have kz:=hid (KZ.out w11)
 clear KZ Z11
 go_wp2_with (go_at_call 9;(with_reducible refine Calls.mono kz.out ?_);rintro e w12 ⟨rfl,b12⟩;have BZ:=hid (nextB B11.out b12);clear b12)
 go_returns
 exact ⟨rfl,BZ.out⟩
set_option maxRecDepth 100000 in
set_option maxHeartbeats 8000000 in
theorem lits_mul_0 (a b:Nat) (ha:a≤4503599627370496) (hb:b≤4503599627370496) (V:Int) (hV:IntKind.i64.wrap ((a:Int)*(b:Int))=V) (hV2:wrap64 ((a:Int)*(b:Int))=V) (q0:((a:Int)==0)=true) (hS:¬ (4503599627370496:Int)<V) (hE:fdE (eS ⟨#[42]⟩ a b (15+(dec a).length+1) (15+(dec a).length+3))=.nd ⟨#[108,105,116]⟩ ⟨#[]⟩ 2 V (15+(dec a).length+1) []) (w:World) (hT:TabU w):Calls Tryd.prog 3 #[.int .i64 (a:Nat),.int .i64 (b:Nat),.int .i64 2] w fun e w'=>e=.returned (.bool true)∧Below w.heap.size w w':=by
 have HT:=hid hT
 have KA:=hid (awakeF w hT)
 have KR:=hid (fun W=>read_l [42] (by simp [opL]) rfl a b ha hb W)
 rw [← sl_text] at KR
 rw [show tx [42]=⟨#[42]⟩ from rfl] at KR
 have L1:=hid (fun W=>lit_2 a W ha)
 have L2:=hid (fun W=>lit_2 b W hb)
 have GE':=hid (gx_eS (o:=⟨#[42]⟩) rfl rfl (a:=a) (b:=b) (p:=15+(dec a).length+1) (q:=15+(dec a).length+3) ha hb)
 obtain ⟨E,hE2⟩:∃ E,fdE (eS ⟨#[42]⟩ a b (15+(dec a).length+1) (15+(dec a).length+3))=E:=⟨_,rfl⟩
 have KF:=hid (fun W hW sa sm sc h=>fold_l (eS ⟨#[42]⟩ a b (15+(dec a).length+1) (15+(dec a).length+3)) E GE'.out hE2 W hW sa sm sc h)
 have z1:(tx (dec a)).size≤21:=by rw [tx_sz];exact (dec_len a).2
 have z2:(tx (dec b)).size≤21:=by rw [tx_sz];exact (dec_len b).2
 rw [hE] at hE2
 have EK:E.kids=[]:=by rw [← hE2];rfl
 have EN:E.n=V:=by rw [← hE2];rfl
 have EO:(E.op.toList==[108,105,116])=true:=by rw [← hE2];exact (eqL _ _).trans rfl
 have KZ:=hid (show ∀ W,Calls Tryd.prog 9 #[.agg #[.string E.op,.string E.name,.int .i64 (E.kind:Nat),.int .i64 V,.int .i64 (E.pl:Nat),.slice none 0 0]] W fun e w'=>e=.returned (.int .i64 1)∧Below W.heap.size W w' from fun W=>by
  have sz:szT E=1:=by rw [← hE2,szT];rfl
  have k:=size_any (t:=E) (.mk _ (by rw [EK];decide) (fun k hk=>by rw [EK] at hk;simp at hk)) (fun _=>True) W (.agg #[.string E.op,.string E.name,.int .i64 (E.kind:Nat),.int .i64 E.n,.int .i64 (E.pl:Nat),.slice none 0 0]) (by rw [sz];decide) ⟨_,rfl,by rw [EK];exact .nil⟩
  rw [sz,EN] at k
  exact k)
 replace EN:=hid EN
 replace EK:=hid EK
 clear hE hE2
 clear hT GE'
 generalize tx (dec a)=DA at *
 generalize tx (dec b)=DB at *
 have a0:¬ (a:Int)<0:=by omega
 have a1:¬ (4503599627370496:Int)<(a:Int):=by omega
 have b0:¬ (b:Int)<0:=by omega
 have b1:¬ (4503599627370496:Int)<(b:Int):=by omega
 clear ha hb
 generalize (tS (eS ⟨#[42]⟩ a b (15+(dec a).length+1) (15+(dec a).length+3))).kids=NK at *
 go_enter Tryd.func3,Tryd.ntmps3
 go_upto_region 3 with (go_at_call 4;(with_reducible refine Calls.mono KA.out ?_);rintro e w2 ⟨rfl,b2⟩;have B2:=hid b2;clear b2)
 have bX:=(show Below w2.heap.size w2 (w2.alloc (.cells #[.string ⟨#[43]⟩,.string ⟨#[45]⟩,.string ⟨#[42]⟩,.string ⟨#[47]⟩] 9)) from (Below.refl _ _).alloc (Nat.le_refl _) _)
 have B3:=hid (nextB B2.out bX)
 have RC:=hid (show (w2.alloc (.cells #[.string ⟨#[43]⟩,.string ⟨#[45]⟩,.string ⟨#[42]⟩,.string ⟨#[47]⟩] 9)).cell? ⟨w2.heap.size,2,none⟩=some (.string ⟨#[42]⟩) from by simp)
 clear bX B2 KA
 go_upto_region 6 with fail
 clear a0 a1 b0 b1
 generalize World.alloc w2 _=w3 at *
 generalize w2.heap.size=q3 at *
 refine wp_region_held_drew (S:=fun W=>Below w3.heap.size w3 W) (by kernel_rfl) (Below.refl _ _).drew (fun hHeld=>?_)
 have BB:=hid (show Below w3.heap.size w3 w3.drew from (Below.refl _ _).drew)
 generalize w3.drew=v0 at *
 refine tkq 0 (.int .i64 (a:Nat)) 41 rfl rfl rfl (by kernel_rfl) (fun _ _ _ h=>h) (by rfl) hHeld ?_ ?_
 ·(intro W hW;(try dsimp only at hW);go_simp)
 try simp only [Act.put,List.setIfInBounds_toArray,List.set_cons_zero,List.set_cons_succ]
 refine tkq 4 (.slice (some ⟨q3,0,none⟩) 4 4) 45 rfl rfl rfl (by kernel_rfl) (fun _ _ _ h=>h) (by rfl) hHeld ?_ ?_
 ·(intro W hW;(try dsimp only at hW);go_simp)
 try simp only [Act.put,List.setIfInBounds_toArray,List.set_cons_zero,List.set_cons_succ]
 refine tkq 5 (.int .i64 2) 46 rfl rfl rfl (by kernel_rfl) (fun _ _ _ h=>h) (by rfl) hHeld ?_ ?_
 ·(intro W hW;(try dsimp only at hW);go_simp)
 try simp only [Act.put,List.setIfInBounds_toArray,List.set_cons_zero,List.set_cons_succ]
 refine tkq 6 (.pointer (some ⟨q3,2,none⟩)) 47 rfl rfl rfl (by kernel_rfl) (fun _ _ _ h=>h) (by rfl) hHeld ?_ ?_
 ·(intro W hW;(try dsimp only at hW);go_simp)
 try simp only [Act.put,List.setIfInBounds_toArray,List.set_cons_zero,List.set_cons_succ]
 refine tkq 7 (.string ⟨#[42]⟩) 48 rfl rfl rfl (by kernel_rfl) (fun _ _ _ h=>h) (by rfl) hHeld ?_ ?_
 ·(intro W hW;(try dsimp only at hW);have rc:=cellB hW RC.out;go_simp)
 try simp only [Act.put,List.setIfInBounds_toArray,List.set_cons_zero,List.set_cons_succ]
 refine tkq 10 (.int .i64 (b:Nat)) 51 rfl rfl rfl (by kernel_rfl) (fun _ _ _ h=>h) (by rfl) hHeld ?_ ?_
 ·(intro W hW;(try dsimp only at hW);go_simp)
 try simp only [Act.put,List.setIfInBounds_toArray,List.set_cons_zero,List.set_cons_succ]
 refine wpAnyH_ready (rs:=[1]) (by kernel_rfl) (by simp) ?_
 refine cons2 rfl rfl (fun K9 hK=>?_)
 have KV:=hid (L1.out v0)
 go_simp
 refine Calls.mono KV.out ?_
 rintro e9 v1 ⟨rfl,b7⟩
 clear KV
 have BN:=hid (nextB BB.out b7)
 clear b7
 go_wp2_with fail
 refine hK.out _ _ BN.out (fun hX=>?_)
 clear hK K9 hHeld
 have hHeld:=hX
 clear hX
 try simp only [Act.put,List.setIfInBounds_toArray,List.set_cons_zero,List.set_cons_succ]
 clear BB
 have BB:=BN
 clear BN
 refine tkq 2 (.string (⟨#[114,117,108,101,32,114,32,99,111,117,110,116,32,61,32]⟩ ++ DA)) 43 rfl rfl rfl (by kernel_rfl) (fun _ _ _ h=>h) (by rfl) hHeld ?_ ?_
 ·(intro W hW;(try dsimp only at hW);go_simp;try omega)
 try simp only [Act.put,List.setIfInBounds_toArray,List.set_cons_zero,List.set_cons_succ]
 refine tkq 3 (.string ((⟨#[114,117,108,101,32,114,32,99,111,117,110,116,32,61,32]⟩ ++ DA) ++ ⟨#[32]⟩)) 44 rfl rfl rfl (by kernel_rfl) (fun _ _ _ h=>h) (by rfl) hHeld ?_ ?_
 ·(intro W hW;(try dsimp only at hW);go_simp;try omega)
 try simp only [Act.put,List.setIfInBounds_toArray,List.set_cons_zero,List.set_cons_succ]
 refine tkq 8 (.string (((⟨#[114,117,108,101,32,114,32,99,111,117,110,116,32,61,32]⟩ ++ DA) ++ ⟨#[32]⟩) ++ ⟨#[42]⟩)) 49 rfl rfl rfl (by kernel_rfl) (fun _ _ _ h=>h) (by rfl) hHeld ?_ ?_
 ·(intro W hW;(try dsimp only at hW);go_simp;try omega)
 try simp only [Act.put,List.setIfInBounds_toArray,List.set_cons_zero,List.set_cons_succ]
 refine tkq 9 (.string ((((⟨#[114,117,108,101,32,114,32,99,111,117,110,116,32,61,32]⟩ ++ DA) ++ ⟨#[32]⟩) ++ ⟨#[42]⟩) ++ ⟨#[32]⟩)) 50 rfl rfl rfl (by kernel_rfl) (fun _ _ _ h=>h) (by rfl) hHeld ?_ ?_
 ·(intro W hW;(try dsimp only at hW);go_simp;try omega)
 try simp only [Act.put,List.setIfInBounds_toArray,List.set_cons_zero,List.set_cons_succ]
 refine wpAnyH_ready (rs:=[11]) (by kernel_rfl) (by simp) ?_
 refine cons2 rfl rfl (fun K9 hK=>?_)
 have KV:=hid (L2.out v1)
 go_simp
 refine Calls.mono KV.out ?_
 rintro e9 v2 ⟨rfl,b7⟩
 clear KV
 have BN:=hid (nextB BB.out b7)
 clear b7
 go_wp2_with fail
 refine hK.out _ _ BN.out (fun hX=>?_)
 clear hK K9 hHeld
 have hHeld:=hX
 clear hX
 try simp only [Act.put,List.setIfInBounds_toArray,List.set_cons_zero,List.set_cons_succ]
 clear BB
 have BB:=BN
 clear BN
 refine tkq 12 (.string (((((⟨#[114,117,108,101,32,114,32,99,111,117,110,116,32,61,32]⟩ ++ DA) ++ ⟨#[32]⟩) ++ ⟨#[42]⟩) ++ ⟨#[32]⟩) ++ DB)) 53 rfl rfl rfl (by kernel_rfl) (fun _ _ _ h=>h) (by rfl) hHeld ?_ ?_
 ·(intro W hW;(try dsimp only at hW);go_simp;try omega)
 try simp only [Act.put,List.setIfInBounds_toArray,List.set_cons_zero,List.set_cons_succ]
 refine tkq 13 (.string ((((((⟨#[114,117,108,101,32,114,32,99,111,117,110,116,32,61,32]⟩ ++ DA) ++ ⟨#[32]⟩) ++ ⟨#[42]⟩) ++ ⟨#[32]⟩) ++ DB) ++ ⟨#[59]⟩)) 54 rfl rfl rfl (by kernel_rfl) (fun _ _ _ h=>h) (by rfl) hHeld ?_ ?_
 ·(intro W hW;(try dsimp only at hW);go_simp;try omega)
 try simp only [Act.put,List.setIfInBounds_toArray,List.set_cons_zero,List.set_cons_succ]
 refine tkq 14 (.string ((((((⟨#[114,117,108,101,32,114,32,99,111,117,110,116,32,61,32]⟩ ++ DA) ++ ⟨#[32]⟩) ++ ⟨#[42]⟩) ++ ⟨#[32]⟩) ++ DB) ++ ⟨#[59]⟩)) 8 rfl rfl rfl (by kernel_rfl) (fun _ _ _ h=>h) (by rfl) hHeld ?_ ?_
 ·(intro W hW;(try dsimp only at hW);go_simp)
 try simp only [Act.put,List.setIfInBounds_toArray,List.set_cons_zero,List.set_cons_succ]
 refine wpAnyH_done (by kernel_rfl) ?_ _
 have B5:=hid (nextB B3.out BB.out)
 clear BB B3 RC hHeld L1 L2
 have kr:=hid (KR.out v2)
 generalize ((((((⟨#[114,117,108,101,32,114,32,99,111,117,110,116,32,61,32]⟩ ++ DA) ++ ⟨#[32]⟩) ++ ⟨#[42]⟩) ++ ⟨#[32]⟩) ++ DB) ++ ⟨#[59]⟩)=TX at *
 clear KR z1 z2
 go_upto_region 8 with (go_at_call 6;(with_reducible refine Calls.mono kr.out ?_);rintro e w7 ⟨sa,sb,sm,sc,sn,sd,rfl,n7,b7⟩;have B7:=hid (nextB B5.out b7);have N7:=hid n7;clear n7 b7)
 have bX:=(show Below w7.heap.size w7 ((w7.alloc (.cells #[.string ⟨#[115,116,97,116,117,116,101]⟩,.string ⟨#[]⟩,.int .i64 0,.int .i64 0,.int .i64 0,.slice sa sm sc] 28)).alloc (.cells #[.string ⟨#[115,116,97,116,117,116,101]⟩,.string ⟨#[]⟩,.int .i64 0,.int .i64 0,.int .i64 0,.slice sb sn sd] 31)) from ((Below.refl _ _).alloc (Nat.le_refl _) _).alloc (by simp) _)
 have B8:=hid (nextB B7.out bX)
 have X8:=hid (show B6 ((w7.alloc (.cells #[.string ⟨#[115,116,97,116,117,116,101]⟩,.string ⟨#[]⟩,.int .i64 0,.int .i64 0,.int .i64 0,.slice sa sm sc] 28)).alloc (.cells #[.string ⟨#[115,116,97,116,117,116,101]⟩,.string ⟨#[]⟩,.int .i64 0,.int .i64 0,.int .i64 0,.slice sb sn sd] 31)) w7.heap.size (.string ⟨#[115,116,97,116,117,116,101]⟩) (.string ⟨#[]⟩) (.int .i64 0) (.int .i64 0) (.int .i64 0) (.slice sa sm sc) from (B6.new w7 28 (.string ⟨#[115,116,97,116,117,116,101]⟩) (.string ⟨#[]⟩) (.int .i64 0) (.int .i64 0) (.int .i64 0) (.slice sa sm sc)).next ((Below.refl _ _).alloc (Nat.le_refl _) _))
 have N8:=hid (N7.out.any bX)
 clear bX N7 B7 kr B5
 generalize World.alloc (World.alloc w7 _) _=w8 at *
 generalize w7.heap.size=q8 at *
 have kf:=hid (KF.out w8 (HT.out.next B8.out) sa sm sc N8.out)
 clear KF
 obtain ⟨x0,x1,x2,x3,x4,x5,xz⟩:=X8.out
 go_upto_region 9 with (go_at_call 7;(with_reducible refine Calls.mono kf.out ?_);rintro e w9 ⟨ga,ca,gb,cb,ta,tm,tc,rfl,r5,nc,nk,nm,b9⟩;have B9:=hid (nextB B8.out b9);have X9:=hid (X8.out.next b9);have N9:=hid (N8.out.any b9);have R9:=hid r5;have C9:=hid nc;have K9:=hid nk;have M9:=hid nm;clear r5 nc nk nm b9)
 clear x0 x1 x2 x3 x4 x5 xz X8 N8 B8 kf HT
 have bX:=(show Below w9.heap.size w9 (w9.alloc (.cells #[.string ⟨#[115,116,97,116,117,116,101]⟩,.string ⟨#[]⟩,.int .i64 0,.int .i64 0,.int .i64 0,.slice (some ⟨ga,0,none⟩) 1 ca] 28)) from (Below.refl _ _).alloc (Nat.le_refl _) _)
 have B10:=hid (nextB B9.out bX)
 have X10:=hid (X9.out.next bX)
 have Y10:=hid (B6.new w9 28 (.string ⟨#[115,116,97,116,117,116,101]⟩) (.string ⟨#[]⟩) (.int .i64 0) (.int .i64 0) (.int .i64 0) (.slice (some ⟨ga,0,none⟩) 1 ca))
 have N10:=hid (N9.out.any bX)
 have R10:=hid (cellB bX R9.out)
 have C10:=hid (C9.out.keep (bX.block _ (World.block_lt_of_cell? _ _ C9.out.e0)))
 have K10:=hid (K9.out.any bX)
 have M10:=hid (M9.out.any bX)
 clear bX B9 X9 N9 R9 C9 K9 M9
 generalize World.alloc w9 _=w10 at *
 generalize w9.heap.size=q10 at *
 obtain ⟨y0,y1,y2,y3,y4,y5,yz⟩:=Y10.out
 obtain ⟨k0,k1,k2,k3,k4,k5⟩:=C10.out
 have r5:=R10.out
 go_upto_region 12 with fail
 clear y0 y1 y2 y3 y4 y5 yz k0 k1 k2 k3 k4 k5 r5
 have bX:=(show Below w10.heap.size w10 (w10.alloc (.cells #[.string E.op,.string E.name,.int .i64 (E.kind:Nat),.int .i64 E.n,.int .i64 (E.pl:Nat),.slice ta tm tc] 28)) from (Below.refl _ _).alloc (Nat.le_refl _) _)
 have B11:=hid (nextB B10.out bX)
 have X11:=hid (X10.out.next bX)
 have Y11:=hid (Y10.out.next bX)
 have N11:=hid (N10.out.any bX)
 have M11:=hid (M10.out.any bX)
 have Z11:=hid (B6.new w10 28 (.string E.op) (.string E.name) (.int .i64 (E.kind:Nat)) (.int .i64 E.n) (.int .i64 (E.pl:Nat)) (.slice ta tm tc))
 clear bX B10 X10 Y10 N10 R10 C10 M10
 generalize World.alloc w10 _=w11 at *
 generalize w10.heap.size=q11 at *
 have es:Value.slice ta tm tc=.slice none 0 0:=Nd.k0 (by have:=K10.out;rw [EK.out] at this;exact this)
 injection es with e1 e2 e3
 subst e1 e2 e3
 rw [EN.out] at Z11
 clear K10 N11 M11 X11 Y11 EN EK
 obtain ⟨x0,x1,x2,x3,x4,x5,xz⟩:=Z11.out
 have kz:=hid (KZ.out w11)
 clear KZ Z11
 go_wp2_with (go_at_call 9;(with_reducible refine Calls.mono kz.out ?_);rintro e w12 ⟨rfl,b12⟩;have BZ:=hid (nextB B11.out b12);clear b12)
 go_returns
 exact ⟨rfl,BZ.out⟩
set_option maxRecDepth 100000 in
set_option maxHeartbeats 8000000 in
theorem lits_mul_yes (a b:Nat) (ha:a≤4503599627370496) (hb:b≤4503599627370496) (V:Int) (hV:IntKind.i64.wrap ((a:Int)*(b:Int))=V) (hV2:wrap64 ((a:Int)*(b:Int))=V) (q0:((a:Int)==0)=false) (q9:¬ (a:Int)=0) (Q:Int) (hQ:(4503599627370496:Int).tdiv (a:Int)=Q) (hQ2:IntKind.i64.wrap Q=Q) (hQ3:wrap64 Q=Q) (hl:(b:Int)≤Q) (hS:¬ (4503599627370496:Int)<V) (hE:fdE (eS ⟨#[42]⟩ a b (15+(dec a).length+1) (15+(dec a).length+3))=.nd ⟨#[108,105,116]⟩ ⟨#[]⟩ 2 V (15+(dec a).length+1) []) (w:World) (hT:TabU w):Calls Tryd.prog 3 #[.int .i64 (a:Nat),.int .i64 (b:Nat),.int .i64 2] w fun e w'=>e=.returned (.bool true)∧Below w.heap.size w w':=by
 have HT:=hid hT
 have KA:=hid (awakeF w hT)
 have KR:=hid (fun W=>read_l [42] (by simp [opL]) rfl a b ha hb W)
 rw [← sl_text] at KR
 rw [show tx [42]=⟨#[42]⟩ from rfl] at KR
 have L1:=hid (fun W=>lit_2 a W ha)
 have L2:=hid (fun W=>lit_2 b W hb)
 have GE':=hid (gx_eS (o:=⟨#[42]⟩) rfl rfl (a:=a) (b:=b) (p:=15+(dec a).length+1) (q:=15+(dec a).length+3) ha hb)
 obtain ⟨E,hE2⟩:∃ E,fdE (eS ⟨#[42]⟩ a b (15+(dec a).length+1) (15+(dec a).length+3))=E:=⟨_,rfl⟩
 have KF:=hid (fun W hW sa sm sc h=>fold_l (eS ⟨#[42]⟩ a b (15+(dec a).length+1) (15+(dec a).length+3)) E GE'.out hE2 W hW sa sm sc h)
 have z1:(tx (dec a)).size≤21:=by rw [tx_sz];exact (dec_len a).2
 have z2:(tx (dec b)).size≤21:=by rw [tx_sz];exact (dec_len b).2
 rw [hE] at hE2
 have EK:E.kids=[]:=by rw [← hE2];rfl
 have EN:E.n=V:=by rw [← hE2];rfl
 have EO:(E.op.toList==[108,105,116])=true:=by rw [← hE2];exact (eqL _ _).trans rfl
 have KZ:=hid (show ∀ W,Calls Tryd.prog 9 #[.agg #[.string E.op,.string E.name,.int .i64 (E.kind:Nat),.int .i64 V,.int .i64 (E.pl:Nat),.slice none 0 0]] W fun e w'=>e=.returned (.int .i64 1)∧Below W.heap.size W w' from fun W=>by
  have sz:szT E=1:=by rw [← hE2,szT];rfl
  have k:=size_any (t:=E) (.mk _ (by rw [EK];decide) (fun k hk=>by rw [EK] at hk;simp at hk)) (fun _=>True) W (.agg #[.string E.op,.string E.name,.int .i64 (E.kind:Nat),.int .i64 E.n,.int .i64 (E.pl:Nat),.slice none 0 0]) (by rw [sz];decide) ⟨_,rfl,by rw [EK];exact .nil⟩
  rw [sz,EN] at k
  exact k)
 replace EN:=hid EN
 replace EK:=hid EK
 clear hE hE2
 clear hT GE'
 generalize tx (dec a)=DA at *
 generalize tx (dec b)=DB at *
 have a0:¬ (a:Int)<0:=by omega
 have a1:¬ (4503599627370496:Int)<(a:Int):=by omega
 have b0:¬ (b:Int)<0:=by omega
 have b1:¬ (4503599627370496:Int)<(b:Int):=by omega
 clear ha hb
 generalize (tS (eS ⟨#[42]⟩ a b (15+(dec a).length+1) (15+(dec a).length+3))).kids=NK at *
 go_enter Tryd.func3,Tryd.ntmps3
 go_upto_region 3 with (go_at_call 4;(with_reducible refine Calls.mono KA.out ?_);rintro e w2 ⟨rfl,b2⟩;have B2:=hid b2;clear b2)
 have bX:=(show Below w2.heap.size w2 (w2.alloc (.cells #[.string ⟨#[43]⟩,.string ⟨#[45]⟩,.string ⟨#[42]⟩,.string ⟨#[47]⟩] 9)) from (Below.refl _ _).alloc (Nat.le_refl _) _)
 have B3:=hid (nextB B2.out bX)
 have RC:=hid (show (w2.alloc (.cells #[.string ⟨#[43]⟩,.string ⟨#[45]⟩,.string ⟨#[42]⟩,.string ⟨#[47]⟩] 9)).cell? ⟨w2.heap.size,2,none⟩=some (.string ⟨#[42]⟩) from by simp)
 clear bX B2 KA
 go_upto_region 6 with fail
 clear a0 a1 b0 b1
 generalize World.alloc w2 _=w3 at *
 generalize w2.heap.size=q3 at *
 refine wp_region_held_drew (S:=fun W=>Below w3.heap.size w3 W) (by kernel_rfl) (Below.refl _ _).drew (fun hHeld=>?_)
 have BB:=hid (show Below w3.heap.size w3 w3.drew from (Below.refl _ _).drew)
 generalize w3.drew=v0 at *
 refine tkq 0 (.int .i64 (a:Nat)) 41 rfl rfl rfl (by kernel_rfl) (fun _ _ _ h=>h) (by rfl) hHeld ?_ ?_
 ·(intro W hW;(try dsimp only at hW);go_simp)
 try simp only [Act.put,List.setIfInBounds_toArray,List.set_cons_zero,List.set_cons_succ]
 refine tkq 4 (.slice (some ⟨q3,0,none⟩) 4 4) 45 rfl rfl rfl (by kernel_rfl) (fun _ _ _ h=>h) (by rfl) hHeld ?_ ?_
 ·(intro W hW;(try dsimp only at hW);go_simp)
 try simp only [Act.put,List.setIfInBounds_toArray,List.set_cons_zero,List.set_cons_succ]
 refine tkq 5 (.int .i64 2) 46 rfl rfl rfl (by kernel_rfl) (fun _ _ _ h=>h) (by rfl) hHeld ?_ ?_
 ·(intro W hW;(try dsimp only at hW);go_simp)
 try simp only [Act.put,List.setIfInBounds_toArray,List.set_cons_zero,List.set_cons_succ]
 refine tkq 6 (.pointer (some ⟨q3,2,none⟩)) 47 rfl rfl rfl (by kernel_rfl) (fun _ _ _ h=>h) (by rfl) hHeld ?_ ?_
 ·(intro W hW;(try dsimp only at hW);go_simp)
 try simp only [Act.put,List.setIfInBounds_toArray,List.set_cons_zero,List.set_cons_succ]
 refine tkq 7 (.string ⟨#[42]⟩) 48 rfl rfl rfl (by kernel_rfl) (fun _ _ _ h=>h) (by rfl) hHeld ?_ ?_
 ·(intro W hW;(try dsimp only at hW);have rc:=cellB hW RC.out;go_simp)
 try simp only [Act.put,List.setIfInBounds_toArray,List.set_cons_zero,List.set_cons_succ]
 refine tkq 10 (.int .i64 (b:Nat)) 51 rfl rfl rfl (by kernel_rfl) (fun _ _ _ h=>h) (by rfl) hHeld ?_ ?_
 ·(intro W hW;(try dsimp only at hW);go_simp)
 try simp only [Act.put,List.setIfInBounds_toArray,List.set_cons_zero,List.set_cons_succ]
 refine wpAnyH_ready (rs:=[1]) (by kernel_rfl) (by simp) ?_
 refine cons2 rfl rfl (fun K9 hK=>?_)
 have KV:=hid (L1.out v0)
 go_simp
 refine Calls.mono KV.out ?_
 rintro e9 v1 ⟨rfl,b7⟩
 clear KV
 have BN:=hid (nextB BB.out b7)
 clear b7
 go_wp2_with fail
 refine hK.out _ _ BN.out (fun hX=>?_)
 clear hK K9 hHeld
 have hHeld:=hX
 clear hX
 try simp only [Act.put,List.setIfInBounds_toArray,List.set_cons_zero,List.set_cons_succ]
 clear BB
 have BB:=BN
 clear BN
 refine tkq 2 (.string (⟨#[114,117,108,101,32,114,32,99,111,117,110,116,32,61,32]⟩ ++ DA)) 43 rfl rfl rfl (by kernel_rfl) (fun _ _ _ h=>h) (by rfl) hHeld ?_ ?_
 ·(intro W hW;(try dsimp only at hW);go_simp;try omega)
 try simp only [Act.put,List.setIfInBounds_toArray,List.set_cons_zero,List.set_cons_succ]
 refine tkq 3 (.string ((⟨#[114,117,108,101,32,114,32,99,111,117,110,116,32,61,32]⟩ ++ DA) ++ ⟨#[32]⟩)) 44 rfl rfl rfl (by kernel_rfl) (fun _ _ _ h=>h) (by rfl) hHeld ?_ ?_
 ·(intro W hW;(try dsimp only at hW);go_simp;try omega)
 try simp only [Act.put,List.setIfInBounds_toArray,List.set_cons_zero,List.set_cons_succ]
 refine tkq 8 (.string (((⟨#[114,117,108,101,32,114,32,99,111,117,110,116,32,61,32]⟩ ++ DA) ++ ⟨#[32]⟩) ++ ⟨#[42]⟩)) 49 rfl rfl rfl (by kernel_rfl) (fun _ _ _ h=>h) (by rfl) hHeld ?_ ?_
 ·(intro W hW;(try dsimp only at hW);go_simp;try omega)
 try simp only [Act.put,List.setIfInBounds_toArray,List.set_cons_zero,List.set_cons_succ]
 refine tkq 9 (.string ((((⟨#[114,117,108,101,32,114,32,99,111,117,110,116,32,61,32]⟩ ++ DA) ++ ⟨#[32]⟩) ++ ⟨#[42]⟩) ++ ⟨#[32]⟩)) 50 rfl rfl rfl (by kernel_rfl) (fun _ _ _ h=>h) (by rfl) hHeld ?_ ?_
 ·(intro W hW;(try dsimp only at hW);go_simp;try omega)
 try simp only [Act.put,List.setIfInBounds_toArray,List.set_cons_zero,List.set_cons_succ]
 refine wpAnyH_ready (rs:=[11]) (by kernel_rfl) (by simp) ?_
 refine cons2 rfl rfl (fun K9 hK=>?_)
 have KV:=hid (L2.out v1)
 go_simp
 refine Calls.mono KV.out ?_
 rintro e9 v2 ⟨rfl,b7⟩
 clear KV
 have BN:=hid (nextB BB.out b7)
 clear b7
 go_wp2_with fail
 refine hK.out _ _ BN.out (fun hX=>?_)
 clear hK K9 hHeld
 have hHeld:=hX
 clear hX
 try simp only [Act.put,List.setIfInBounds_toArray,List.set_cons_zero,List.set_cons_succ]
 clear BB
 have BB:=BN
 clear BN
 refine tkq 12 (.string (((((⟨#[114,117,108,101,32,114,32,99,111,117,110,116,32,61,32]⟩ ++ DA) ++ ⟨#[32]⟩) ++ ⟨#[42]⟩) ++ ⟨#[32]⟩) ++ DB)) 53 rfl rfl rfl (by kernel_rfl) (fun _ _ _ h=>h) (by rfl) hHeld ?_ ?_
 ·(intro W hW;(try dsimp only at hW);go_simp;try omega)
 try simp only [Act.put,List.setIfInBounds_toArray,List.set_cons_zero,List.set_cons_succ]
 refine tkq 13 (.string ((((((⟨#[114,117,108,101,32,114,32,99,111,117,110,116,32,61,32]⟩ ++ DA) ++ ⟨#[32]⟩) ++ ⟨#[42]⟩) ++ ⟨#[32]⟩) ++ DB) ++ ⟨#[59]⟩)) 54 rfl rfl rfl (by kernel_rfl) (fun _ _ _ h=>h) (by rfl) hHeld ?_ ?_
 ·(intro W hW;(try dsimp only at hW);go_simp;try omega)
 try simp only [Act.put,List.setIfInBounds_toArray,List.set_cons_zero,List.set_cons_succ]
 refine tkq 14 (.string ((((((⟨#[114,117,108,101,32,114,32,99,111,117,110,116,32,61,32]⟩ ++ DA) ++ ⟨#[32]⟩) ++ ⟨#[42]⟩) ++ ⟨#[32]⟩) ++ DB) ++ ⟨#[59]⟩)) 8 rfl rfl rfl (by kernel_rfl) (fun _ _ _ h=>h) (by rfl) hHeld ?_ ?_
 ·(intro W hW;(try dsimp only at hW);go_simp)
 try simp only [Act.put,List.setIfInBounds_toArray,List.set_cons_zero,List.set_cons_succ]
 refine wpAnyH_done (by kernel_rfl) ?_ _
 have B5:=hid (nextB B3.out BB.out)
 clear BB B3 RC hHeld L1 L2
 have kr:=hid (KR.out v2)
 generalize ((((((⟨#[114,117,108,101,32,114,32,99,111,117,110,116,32,61,32]⟩ ++ DA) ++ ⟨#[32]⟩) ++ ⟨#[42]⟩) ++ ⟨#[32]⟩) ++ DB) ++ ⟨#[59]⟩)=TX at *
 clear KR z1 z2
 go_upto_region 8 with (go_at_call 6;(with_reducible refine Calls.mono kr.out ?_);rintro e w7 ⟨sa,sb,sm,sc,sn,sd,rfl,n7,b7⟩;have B7:=hid (nextB B5.out b7);have N7:=hid n7;clear n7 b7)
 have bX:=(show Below w7.heap.size w7 ((w7.alloc (.cells #[.string ⟨#[115,116,97,116,117,116,101]⟩,.string ⟨#[]⟩,.int .i64 0,.int .i64 0,.int .i64 0,.slice sa sm sc] 28)).alloc (.cells #[.string ⟨#[115,116,97,116,117,116,101]⟩,.string ⟨#[]⟩,.int .i64 0,.int .i64 0,.int .i64 0,.slice sb sn sd] 31)) from ((Below.refl _ _).alloc (Nat.le_refl _) _).alloc (by simp) _)
 have B8:=hid (nextB B7.out bX)
 have X8:=hid (show B6 ((w7.alloc (.cells #[.string ⟨#[115,116,97,116,117,116,101]⟩,.string ⟨#[]⟩,.int .i64 0,.int .i64 0,.int .i64 0,.slice sa sm sc] 28)).alloc (.cells #[.string ⟨#[115,116,97,116,117,116,101]⟩,.string ⟨#[]⟩,.int .i64 0,.int .i64 0,.int .i64 0,.slice sb sn sd] 31)) w7.heap.size (.string ⟨#[115,116,97,116,117,116,101]⟩) (.string ⟨#[]⟩) (.int .i64 0) (.int .i64 0) (.int .i64 0) (.slice sa sm sc) from (B6.new w7 28 (.string ⟨#[115,116,97,116,117,116,101]⟩) (.string ⟨#[]⟩) (.int .i64 0) (.int .i64 0) (.int .i64 0) (.slice sa sm sc)).next ((Below.refl _ _).alloc (Nat.le_refl _) _))
 have N8:=hid (N7.out.any bX)
 clear bX N7 B7 kr B5
 generalize World.alloc (World.alloc w7 _) _=w8 at *
 generalize w7.heap.size=q8 at *
 have kf:=hid (KF.out w8 (HT.out.next B8.out) sa sm sc N8.out)
 clear KF
 obtain ⟨x0,x1,x2,x3,x4,x5,xz⟩:=X8.out
 go_upto_region 9 with (go_at_call 7;(with_reducible refine Calls.mono kf.out ?_);rintro e w9 ⟨ga,ca,gb,cb,ta,tm,tc,rfl,r5,nc,nk,nm,b9⟩;have B9:=hid (nextB B8.out b9);have X9:=hid (X8.out.next b9);have N9:=hid (N8.out.any b9);have R9:=hid r5;have C9:=hid nc;have K9:=hid nk;have M9:=hid nm;clear r5 nc nk nm b9)
 clear x0 x1 x2 x3 x4 x5 xz X8 N8 B8 kf HT
 have bX:=(show Below w9.heap.size w9 (w9.alloc (.cells #[.string ⟨#[115,116,97,116,117,116,101]⟩,.string ⟨#[]⟩,.int .i64 0,.int .i64 0,.int .i64 0,.slice (some ⟨ga,0,none⟩) 1 ca] 28)) from (Below.refl _ _).alloc (Nat.le_refl _) _)
 have B10:=hid (nextB B9.out bX)
 have X10:=hid (X9.out.next bX)
 have Y10:=hid (B6.new w9 28 (.string ⟨#[115,116,97,116,117,116,101]⟩) (.string ⟨#[]⟩) (.int .i64 0) (.int .i64 0) (.int .i64 0) (.slice (some ⟨ga,0,none⟩) 1 ca))
 have N10:=hid (N9.out.any bX)
 have R10:=hid (cellB bX R9.out)
 have C10:=hid (C9.out.keep (bX.block _ (World.block_lt_of_cell? _ _ C9.out.e0)))
 have K10:=hid (K9.out.any bX)
 have M10:=hid (M9.out.any bX)
 clear bX B9 X9 N9 R9 C9 K9 M9
 generalize World.alloc w9 _=w10 at *
 generalize w9.heap.size=q10 at *
 obtain ⟨y0,y1,y2,y3,y4,y5,yz⟩:=Y10.out
 obtain ⟨k0,k1,k2,k3,k4,k5⟩:=C10.out
 have r5:=R10.out
 go_upto_region 12 with fail
 clear y0 y1 y2 y3 y4 y5 yz k0 k1 k2 k3 k4 k5 r5
 have bX:=(show Below w10.heap.size w10 (w10.alloc (.cells #[.string E.op,.string E.name,.int .i64 (E.kind:Nat),.int .i64 E.n,.int .i64 (E.pl:Nat),.slice ta tm tc] 28)) from (Below.refl _ _).alloc (Nat.le_refl _) _)
 have B11:=hid (nextB B10.out bX)
 have X11:=hid (X10.out.next bX)
 have Y11:=hid (Y10.out.next bX)
 have N11:=hid (N10.out.any bX)
 have M11:=hid (M10.out.any bX)
 have Z11:=hid (B6.new w10 28 (.string E.op) (.string E.name) (.int .i64 (E.kind:Nat)) (.int .i64 E.n) (.int .i64 (E.pl:Nat)) (.slice ta tm tc))
 clear bX B10 X10 Y10 N10 R10 C10 M10
 generalize World.alloc w10 _=w11 at *
 generalize w10.heap.size=q11 at *
 have es:Value.slice ta tm tc=.slice none 0 0:=Nd.k0 (by have:=K10.out;rw [EK.out] at this;exact this)
 injection es with e1 e2 e3
 subst e1 e2 e3
 rw [EN.out] at Z11
 clear K10 N11 M11 X11 Y11 EN EK
 obtain ⟨x0,x1,x2,x3,x4,x5,xz⟩:=Z11.out
 have kz:=hid (KZ.out w11)
 clear KZ Z11
 go_wp2_with (go_at_call 9;(with_reducible refine Calls.mono kz.out ?_);rintro e w12 ⟨rfl,b12⟩;have BZ:=hid (nextB B11.out b12);clear b12)
 go_returns
 exact ⟨rfl,BZ.out⟩
set_option maxRecDepth 100000 in
set_option maxHeartbeats 8000000 in
theorem lits_mul_no (a b:Nat) (ha:a≤4503599627370496) (hb:b≤4503599627370496) (q0:((a:Int)==0)=false) (q9:¬ (a:Int)=0) (Q:Int) (hQ:(4503599627370496:Int).tdiv (a:Int)=Q) (hQ2:IntKind.i64.wrap Q=Q) (hQ3:wrap64 Q=Q) (hl:¬ (b:Int)≤Q) (hE:fdE (eS ⟨#[42]⟩ a b (15+(dec a).length+1) (15+(dec a).length+3))=eS ⟨#[42]⟩ a b (15+(dec a).length+1) (15+(dec a).length+3)) (w:World) (hT:TabU w):Calls Tryd.prog 3 #[.int .i64 (a:Nat),.int .i64 (b:Nat),.int .i64 2] w fun e w'=>e=.returned (.bool true)∧Below w.heap.size w w':=by
 have HT:=hid hT
 have KA:=hid (awakeF w hT)
 have KR:=hid (fun W=>read_l [42] (by simp [opL]) rfl a b ha hb W)
 rw [← sl_text] at KR
 rw [show tx [42]=⟨#[42]⟩ from rfl] at KR
 have L1:=hid (fun W=>lit_2 a W ha)
 have L2:=hid (fun W=>lit_2 b W hb)
 have GE':=hid (gx_eS (o:=⟨#[42]⟩) rfl rfl (a:=a) (b:=b) (p:=15+(dec a).length+1) (q:=15+(dec a).length+3) ha hb)
 obtain ⟨E,hE2⟩:∃ E,fdE (eS ⟨#[42]⟩ a b (15+(dec a).length+1) (15+(dec a).length+3))=E:=⟨_,rfl⟩
 have KF:=hid (fun W hW sa sm sc h=>fold_l (eS ⟨#[42]⟩ a b (15+(dec a).length+1) (15+(dec a).length+3)) E GE'.out hE2 W hW sa sm sc h)
 have z1:(tx (dec a)).size≤21:=by rw [tx_sz];exact (dec_len a).2
 have z2:(tx (dec b)).size≤21:=by rw [tx_sz];exact (dec_len b).2
 rw [hE] at hE2
 have KM:=hid (show ∀ W aa am ac ba bm bc,Nd W (fun _=>True) (.slice aa am ac) (tS E).kids→Nd W (fun _=>True) (.slice ba bm bc) (tS (eS ⟨#[42]⟩ a b (15+(dec a).length+1) (15+(dec a).length+3))).kids→Calls Tryd.prog 8 #[.agg #[.string ⟨#[115,116,97,116,117,116,101]⟩,.string ⟨#[]⟩,.int .i64 0,.int .i64 0,.int .i64 0,.slice aa am ac],.agg #[.string ⟨#[115,116,97,116,117,116,101]⟩,.string ⟨#[]⟩,.int .i64 0,.int .i64 0,.int .i64 0,.slice ba bm bc]] W fun e w'=>e=.returned (.bool true)∧Below W.heap.size W w' from fun W aa am ac ba bm bc h1 h2=>by
  have nw:Nw (tS E):=by
   rw [← hE2]
   refine .nd _ _ _ _ _ _ (by simp) (fun t ht=>?_)
   simp only [List.mem_cons,List.not_mem_nil,or_false] at ht
   subst ht
   refine .nd _ _ _ _ _ _ (by simp) (fun t ht=>?_)
   simp only [List.mem_cons,List.not_mem_nil,or_false] at ht
   subst ht
   refine .nd _ _ _ _ _ _ (by simp) (fun t ht=>?_)
   simp only [List.mem_cons,List.not_mem_nil,or_false] at ht
   rcases ht with rfl | rfl
   ·exact .nd _ _ _ _ _ [] (by decide) (fun t h=>by simp at h)
   ·exact .nd _ _ _ _ _ [] (by decide) (fun t h=>by simp at h)
  rw [hE2] at h2
  have k:=same_any nw (tS E) W (fun _=>True) aa ba am ac bm bc h1 h2
  rw [sm_ref] at k
  exact k)
 clear hE hE2
 clear hT GE'
 generalize tx (dec a)=DA at *
 generalize tx (dec b)=DB at *
 have a0:¬ (a:Int)<0:=by omega
 have a1:¬ (4503599627370496:Int)<(a:Int):=by omega
 have b0:¬ (b:Int)<0:=by omega
 have b1:¬ (4503599627370496:Int)<(b:Int):=by omega
 clear ha hb
 generalize (tS (eS ⟨#[42]⟩ a b (15+(dec a).length+1) (15+(dec a).length+3))).kids=NK at *
 go_enter Tryd.func3,Tryd.ntmps3
 go_upto_region 3 with (go_at_call 4;(with_reducible refine Calls.mono KA.out ?_);rintro e w2 ⟨rfl,b2⟩;have B2:=hid b2;clear b2)
 have bX:=(show Below w2.heap.size w2 (w2.alloc (.cells #[.string ⟨#[43]⟩,.string ⟨#[45]⟩,.string ⟨#[42]⟩,.string ⟨#[47]⟩] 9)) from (Below.refl _ _).alloc (Nat.le_refl _) _)
 have B3:=hid (nextB B2.out bX)
 have RC:=hid (show (w2.alloc (.cells #[.string ⟨#[43]⟩,.string ⟨#[45]⟩,.string ⟨#[42]⟩,.string ⟨#[47]⟩] 9)).cell? ⟨w2.heap.size,2,none⟩=some (.string ⟨#[42]⟩) from by simp)
 clear bX B2 KA
 go_upto_region 6 with fail
 clear a0 a1 b0 b1
 generalize World.alloc w2 _=w3 at *
 generalize w2.heap.size=q3 at *
 refine wp_region_held_drew (S:=fun W=>Below w3.heap.size w3 W) (by kernel_rfl) (Below.refl _ _).drew (fun hHeld=>?_)
 have BB:=hid (show Below w3.heap.size w3 w3.drew from (Below.refl _ _).drew)
 generalize w3.drew=v0 at *
 refine tkq 0 (.int .i64 (a:Nat)) 41 rfl rfl rfl (by kernel_rfl) (fun _ _ _ h=>h) (by rfl) hHeld ?_ ?_
 ·(intro W hW;(try dsimp only at hW);go_simp)
 try simp only [Act.put,List.setIfInBounds_toArray,List.set_cons_zero,List.set_cons_succ]
 refine tkq 4 (.slice (some ⟨q3,0,none⟩) 4 4) 45 rfl rfl rfl (by kernel_rfl) (fun _ _ _ h=>h) (by rfl) hHeld ?_ ?_
 ·(intro W hW;(try dsimp only at hW);go_simp)
 try simp only [Act.put,List.setIfInBounds_toArray,List.set_cons_zero,List.set_cons_succ]
 refine tkq 5 (.int .i64 2) 46 rfl rfl rfl (by kernel_rfl) (fun _ _ _ h=>h) (by rfl) hHeld ?_ ?_
 ·(intro W hW;(try dsimp only at hW);go_simp)
 try simp only [Act.put,List.setIfInBounds_toArray,List.set_cons_zero,List.set_cons_succ]
 refine tkq 6 (.pointer (some ⟨q3,2,none⟩)) 47 rfl rfl rfl (by kernel_rfl) (fun _ _ _ h=>h) (by rfl) hHeld ?_ ?_
 ·(intro W hW;(try dsimp only at hW);go_simp)
 try simp only [Act.put,List.setIfInBounds_toArray,List.set_cons_zero,List.set_cons_succ]
 refine tkq 7 (.string ⟨#[42]⟩) 48 rfl rfl rfl (by kernel_rfl) (fun _ _ _ h=>h) (by rfl) hHeld ?_ ?_
 ·(intro W hW;(try dsimp only at hW);have rc:=cellB hW RC.out;go_simp)
 try simp only [Act.put,List.setIfInBounds_toArray,List.set_cons_zero,List.set_cons_succ]
 refine tkq 10 (.int .i64 (b:Nat)) 51 rfl rfl rfl (by kernel_rfl) (fun _ _ _ h=>h) (by rfl) hHeld ?_ ?_
 ·(intro W hW;(try dsimp only at hW);go_simp)
 try simp only [Act.put,List.setIfInBounds_toArray,List.set_cons_zero,List.set_cons_succ]
 refine wpAnyH_ready (rs:=[1]) (by kernel_rfl) (by simp) ?_
 refine cons2 rfl rfl (fun K9 hK=>?_)
 have KV:=hid (L1.out v0)
 go_simp
 refine Calls.mono KV.out ?_
 rintro e9 v1 ⟨rfl,b7⟩
 clear KV
 have BN:=hid (nextB BB.out b7)
 clear b7
 go_wp2_with fail
 refine hK.out _ _ BN.out (fun hX=>?_)
 clear hK K9 hHeld
 have hHeld:=hX
 clear hX
 try simp only [Act.put,List.setIfInBounds_toArray,List.set_cons_zero,List.set_cons_succ]
 clear BB
 have BB:=BN
 clear BN
 refine tkq 2 (.string (⟨#[114,117,108,101,32,114,32,99,111,117,110,116,32,61,32]⟩ ++ DA)) 43 rfl rfl rfl (by kernel_rfl) (fun _ _ _ h=>h) (by rfl) hHeld ?_ ?_
 ·(intro W hW;(try dsimp only at hW);go_simp;try omega)
 try simp only [Act.put,List.setIfInBounds_toArray,List.set_cons_zero,List.set_cons_succ]
 refine tkq 3 (.string ((⟨#[114,117,108,101,32,114,32,99,111,117,110,116,32,61,32]⟩ ++ DA) ++ ⟨#[32]⟩)) 44 rfl rfl rfl (by kernel_rfl) (fun _ _ _ h=>h) (by rfl) hHeld ?_ ?_
 ·(intro W hW;(try dsimp only at hW);go_simp;try omega)
 try simp only [Act.put,List.setIfInBounds_toArray,List.set_cons_zero,List.set_cons_succ]
 refine tkq 8 (.string (((⟨#[114,117,108,101,32,114,32,99,111,117,110,116,32,61,32]⟩ ++ DA) ++ ⟨#[32]⟩) ++ ⟨#[42]⟩)) 49 rfl rfl rfl (by kernel_rfl) (fun _ _ _ h=>h) (by rfl) hHeld ?_ ?_
 ·(intro W hW;(try dsimp only at hW);go_simp;try omega)
 try simp only [Act.put,List.setIfInBounds_toArray,List.set_cons_zero,List.set_cons_succ]
 refine tkq 9 (.string ((((⟨#[114,117,108,101,32,114,32,99,111,117,110,116,32,61,32]⟩ ++ DA) ++ ⟨#[32]⟩) ++ ⟨#[42]⟩) ++ ⟨#[32]⟩)) 50 rfl rfl rfl (by kernel_rfl) (fun _ _ _ h=>h) (by rfl) hHeld ?_ ?_
 ·(intro W hW;(try dsimp only at hW);go_simp;try omega)
 try simp only [Act.put,List.setIfInBounds_toArray,List.set_cons_zero,List.set_cons_succ]
 refine wpAnyH_ready (rs:=[11]) (by kernel_rfl) (by simp) ?_
 refine cons2 rfl rfl (fun K9 hK=>?_)
 have KV:=hid (L2.out v1)
 go_simp
 refine Calls.mono KV.out ?_
 rintro e9 v2 ⟨rfl,b7⟩
 clear KV
 have BN:=hid (nextB BB.out b7)
 clear b7
 go_wp2_with fail
 refine hK.out _ _ BN.out (fun hX=>?_)
 clear hK K9 hHeld
 have hHeld:=hX
 clear hX
 try simp only [Act.put,List.setIfInBounds_toArray,List.set_cons_zero,List.set_cons_succ]
 clear BB
 have BB:=BN
 clear BN
 refine tkq 12 (.string (((((⟨#[114,117,108,101,32,114,32,99,111,117,110,116,32,61,32]⟩ ++ DA) ++ ⟨#[32]⟩) ++ ⟨#[42]⟩) ++ ⟨#[32]⟩) ++ DB)) 53 rfl rfl rfl (by kernel_rfl) (fun _ _ _ h=>h) (by rfl) hHeld ?_ ?_
 ·(intro W hW;(try dsimp only at hW);go_simp;try omega)
 try simp only [Act.put,List.setIfInBounds_toArray,List.set_cons_zero,List.set_cons_succ]
 refine tkq 13 (.string ((((((⟨#[114,117,108,101,32,114,32,99,111,117,110,116,32,61,32]⟩ ++ DA) ++ ⟨#[32]⟩) ++ ⟨#[42]⟩) ++ ⟨#[32]⟩) ++ DB) ++ ⟨#[59]⟩)) 54 rfl rfl rfl (by kernel_rfl) (fun _ _ _ h=>h) (by rfl) hHeld ?_ ?_
 ·(intro W hW;(try dsimp only at hW);go_simp;try omega)
 try simp only [Act.put,List.setIfInBounds_toArray,List.set_cons_zero,List.set_cons_succ]
 refine tkq 14 (.string ((((((⟨#[114,117,108,101,32,114,32,99,111,117,110,116,32,61,32]⟩ ++ DA) ++ ⟨#[32]⟩) ++ ⟨#[42]⟩) ++ ⟨#[32]⟩) ++ DB) ++ ⟨#[59]⟩)) 8 rfl rfl rfl (by kernel_rfl) (fun _ _ _ h=>h) (by rfl) hHeld ?_ ?_
 ·(intro W hW;(try dsimp only at hW);go_simp)
 try simp only [Act.put,List.setIfInBounds_toArray,List.set_cons_zero,List.set_cons_succ]
 refine wpAnyH_done (by kernel_rfl) ?_ _
 have B5:=hid (nextB B3.out BB.out)
 clear BB B3 RC hHeld L1 L2
 have kr:=hid (KR.out v2)
 generalize ((((((⟨#[114,117,108,101,32,114,32,99,111,117,110,116,32,61,32]⟩ ++ DA) ++ ⟨#[32]⟩) ++ ⟨#[42]⟩) ++ ⟨#[32]⟩) ++ DB) ++ ⟨#[59]⟩)=TX at *
 clear KR z1 z2
 go_upto_region 8 with (go_at_call 6;(with_reducible refine Calls.mono kr.out ?_);rintro e w7 ⟨sa,sb,sm,sc,sn,sd,rfl,n7,b7⟩;have B7:=hid (nextB B5.out b7);have N7:=hid n7;clear n7 b7)
 have bX:=(show Below w7.heap.size w7 ((w7.alloc (.cells #[.string ⟨#[115,116,97,116,117,116,101]⟩,.string ⟨#[]⟩,.int .i64 0,.int .i64 0,.int .i64 0,.slice sa sm sc] 28)).alloc (.cells #[.string ⟨#[115,116,97,116,117,116,101]⟩,.string ⟨#[]⟩,.int .i64 0,.int .i64 0,.int .i64 0,.slice sb sn sd] 31)) from ((Below.refl _ _).alloc (Nat.le_refl _) _).alloc (by simp) _)
 have B8:=hid (nextB B7.out bX)
 have X8:=hid (show B6 ((w7.alloc (.cells #[.string ⟨#[115,116,97,116,117,116,101]⟩,.string ⟨#[]⟩,.int .i64 0,.int .i64 0,.int .i64 0,.slice sa sm sc] 28)).alloc (.cells #[.string ⟨#[115,116,97,116,117,116,101]⟩,.string ⟨#[]⟩,.int .i64 0,.int .i64 0,.int .i64 0,.slice sb sn sd] 31)) w7.heap.size (.string ⟨#[115,116,97,116,117,116,101]⟩) (.string ⟨#[]⟩) (.int .i64 0) (.int .i64 0) (.int .i64 0) (.slice sa sm sc) from (B6.new w7 28 (.string ⟨#[115,116,97,116,117,116,101]⟩) (.string ⟨#[]⟩) (.int .i64 0) (.int .i64 0) (.int .i64 0) (.slice sa sm sc)).next ((Below.refl _ _).alloc (Nat.le_refl _) _))
 have N8:=hid (N7.out.any bX)
 clear bX N7 B7 kr B5
 generalize World.alloc (World.alloc w7 _) _=w8 at *
 generalize w7.heap.size=q8 at *
 have kf:=hid (KF.out w8 (HT.out.next B8.out) sa sm sc N8.out)
 clear KF
 obtain ⟨x0,x1,x2,x3,x4,x5,xz⟩:=X8.out
 go_upto_region 9 with (go_at_call 7;(with_reducible refine Calls.mono kf.out ?_);rintro e w9 ⟨ga,ca,gb,cb,ta,tm,tc,rfl,r5,nc,nk,nm,b9⟩;have B9:=hid (nextB B8.out b9);have X9:=hid (X8.out.next b9);have N9:=hid (N8.out.any b9);have R9:=hid r5;have C9:=hid nc;have K9:=hid nk;have M9:=hid nm;clear r5 nc nk nm b9)
 clear x0 x1 x2 x3 x4 x5 xz X8 N8 B8 kf HT
 have bX:=(show Below w9.heap.size w9 (w9.alloc (.cells #[.string ⟨#[115,116,97,116,117,116,101]⟩,.string ⟨#[]⟩,.int .i64 0,.int .i64 0,.int .i64 0,.slice (some ⟨ga,0,none⟩) 1 ca] 28)) from (Below.refl _ _).alloc (Nat.le_refl _) _)
 have B10:=hid (nextB B9.out bX)
 have X10:=hid (X9.out.next bX)
 have Y10:=hid (B6.new w9 28 (.string ⟨#[115,116,97,116,117,116,101]⟩) (.string ⟨#[]⟩) (.int .i64 0) (.int .i64 0) (.int .i64 0) (.slice (some ⟨ga,0,none⟩) 1 ca))
 have N10:=hid (N9.out.any bX)
 have R10:=hid (cellB bX R9.out)
 have C10:=hid (C9.out.keep (bX.block _ (World.block_lt_of_cell? _ _ C9.out.e0)))
 have K10:=hid (K9.out.any bX)
 have M10:=hid (M9.out.any bX)
 clear bX B9 X9 N9 R9 C9 K9 M9
 generalize World.alloc w9 _=w10 at *
 generalize w9.heap.size=q10 at *
 obtain ⟨y0,y1,y2,y3,y4,y5,yz⟩:=Y10.out
 obtain ⟨k0,k1,k2,k3,k4,k5⟩:=C10.out
 have r5:=R10.out
 go_upto_region 12 with fail
 clear y0 y1 y2 y3 y4 y5 yz k0 k1 k2 k3 k4 k5 r5
 have bX:=(show Below w10.heap.size w10 (w10.alloc (.cells #[.string E.op,.string E.name,.int .i64 (E.kind:Nat),.int .i64 E.n,.int .i64 (E.pl:Nat),.slice ta tm tc] 28)) from (Below.refl _ _).alloc (Nat.le_refl _) _)
 have B11:=hid (nextB B10.out bX)
 have X11:=hid (X10.out.next bX)
 have Y11:=hid (Y10.out.next bX)
 have N11:=hid (N10.out.any bX)
 have M11:=hid (M10.out.any bX)
 have Z11:=hid (B6.new w10 28 (.string E.op) (.string E.name) (.int .i64 (E.kind:Nat)) (.int .i64 E.n) (.int .i64 (E.pl:Nat)) (.slice ta tm tc))
 clear bX B10 X10 Y10 N10 R10 C10 M10
 generalize World.alloc w10 _=w11 at *
 generalize w10.heap.size=q11 at *
 have km:=hid (KM.out w11 _ _ _ _ _ _ M11.out N11.out)
 obtain ⟨x0,x1,x2,x3,x4,x5,xz⟩:=X11.out
 obtain ⟨y0,y1,y2,y3,y4,y5,yz⟩:=Y11.out
 clear K10 N11 M11 X11 Y11 Z11 KM
 go_wp2_with (go_at_call 8;(with_reducible refine Calls.mono km.out ?_);rintro e w12 ⟨rfl,b12⟩;have BZ:=hid (nextB B11.out b12);clear b12)
 go_returns
 exact ⟨rfl,BZ.out⟩
set_option maxRecDepth 100000 in
set_option maxHeartbeats 8000000 in
theorem lits_div_yes (a b:Nat) (ha:a≤4503599627370496) (hb:b≤4503599627370496) (V:Int) (hV:(a:Int).tdiv (b:Int)=V) (hV1:IntKind.i64.wrap V=V) (hV2:wrap64 V=V) (q0:((b:Int)==0)=false) (q1:((b:Int) != 0)=true) (q9:¬ (b:Int)=0) (hS:¬ (4503599627370496:Int)<V) (hE:fdE (eS ⟨#[47]⟩ a b (15+(dec a).length+1) (15+(dec a).length+3))=.nd ⟨#[108,105,116]⟩ ⟨#[]⟩ 2 V (15+(dec a).length+1) []) (w:World) (hT:TabU w):Calls Tryd.prog 3 #[.int .i64 (a:Nat),.int .i64 (b:Nat),.int .i64 3] w fun e w'=>e=.returned (.bool true)∧Below w.heap.size w w':=by
 have HT:=hid hT
 have KA:=hid (awakeF w hT)
 have KR:=hid (fun W=>read_l [47] (by simp [opL]) rfl a b ha hb W)
 rw [← sl_text] at KR
 rw [show tx [47]=⟨#[47]⟩ from rfl] at KR
 have L1:=hid (fun W=>lit_2 a W ha)
 have L2:=hid (fun W=>lit_2 b W hb)
 have GE':=hid (gx_eS (o:=⟨#[47]⟩) rfl rfl (a:=a) (b:=b) (p:=15+(dec a).length+1) (q:=15+(dec a).length+3) ha hb)
 obtain ⟨E,hE2⟩:∃ E,fdE (eS ⟨#[47]⟩ a b (15+(dec a).length+1) (15+(dec a).length+3))=E:=⟨_,rfl⟩
 have KF:=hid (fun W hW sa sm sc h=>fold_l (eS ⟨#[47]⟩ a b (15+(dec a).length+1) (15+(dec a).length+3)) E GE'.out hE2 W hW sa sm sc h)
 have z1:(tx (dec a)).size≤21:=by rw [tx_sz];exact (dec_len a).2
 have z2:(tx (dec b)).size≤21:=by rw [tx_sz];exact (dec_len b).2
 rw [hE] at hE2
 have EK:E.kids=[]:=by rw [← hE2];rfl
 have EN:E.n=V:=by rw [← hE2];rfl
 have EO:(E.op.toList==[108,105,116])=true:=by rw [← hE2];exact (eqL _ _).trans rfl
 have KZ:=hid (show ∀ W,Calls Tryd.prog 9 #[.agg #[.string E.op,.string E.name,.int .i64 (E.kind:Nat),.int .i64 V,.int .i64 (E.pl:Nat),.slice none 0 0]] W fun e w'=>e=.returned (.int .i64 1)∧Below W.heap.size W w' from fun W=>by
  have sz:szT E=1:=by rw [← hE2,szT];rfl
  have k:=size_any (t:=E) (.mk _ (by rw [EK];decide) (fun k hk=>by rw [EK] at hk;simp at hk)) (fun _=>True) W (.agg #[.string E.op,.string E.name,.int .i64 (E.kind:Nat),.int .i64 E.n,.int .i64 (E.pl:Nat),.slice none 0 0]) (by rw [sz];decide) ⟨_,rfl,by rw [EK];exact .nil⟩
  rw [sz,EN] at k
  exact k)
 replace EN:=hid EN
 replace EK:=hid EK
 clear hE hE2
 clear hT GE'
 generalize tx (dec a)=DA at *
 generalize tx (dec b)=DB at *
 have a0:¬ (a:Int)<0:=by omega
 have a1:¬ (4503599627370496:Int)<(a:Int):=by omega
 have b0:¬ (b:Int)<0:=by omega
 have b1:¬ (4503599627370496:Int)<(b:Int):=by omega
 clear ha hb
 generalize (tS (eS ⟨#[47]⟩ a b (15+(dec a).length+1) (15+(dec a).length+3))).kids=NK at *
 go_enter Tryd.func3,Tryd.ntmps3
 go_upto_region 3 with (go_at_call 4;(with_reducible refine Calls.mono KA.out ?_);rintro e w2 ⟨rfl,b2⟩;have B2:=hid b2;clear b2)
 have bX:=(show Below w2.heap.size w2 (w2.alloc (.cells #[.string ⟨#[43]⟩,.string ⟨#[45]⟩,.string ⟨#[42]⟩,.string ⟨#[47]⟩] 9)) from (Below.refl _ _).alloc (Nat.le_refl _) _)
 have B3:=hid (nextB B2.out bX)
 have RC:=hid (show (w2.alloc (.cells #[.string ⟨#[43]⟩,.string ⟨#[45]⟩,.string ⟨#[42]⟩,.string ⟨#[47]⟩] 9)).cell? ⟨w2.heap.size,3,none⟩=some (.string ⟨#[47]⟩) from by simp)
 clear bX B2 KA
 go_upto_region 6 with fail
 clear a0 a1 b0 b1
 generalize World.alloc w2 _=w3 at *
 generalize w2.heap.size=q3 at *
 refine wp_region_held_drew (S:=fun W=>Below w3.heap.size w3 W) (by kernel_rfl) (Below.refl _ _).drew (fun hHeld=>?_)
 have BB:=hid (show Below w3.heap.size w3 w3.drew from (Below.refl _ _).drew)
 generalize w3.drew=v0 at *
 refine tkq 0 (.int .i64 (a:Nat)) 41 rfl rfl rfl (by kernel_rfl) (fun _ _ _ h=>h) (by rfl) hHeld ?_ ?_
 ·(intro W hW;(try dsimp only at hW);go_simp)
 try simp only [Act.put,List.setIfInBounds_toArray,List.set_cons_zero,List.set_cons_succ]
 refine tkq 4 (.slice (some ⟨q3,0,none⟩) 4 4) 45 rfl rfl rfl (by kernel_rfl) (fun _ _ _ h=>h) (by rfl) hHeld ?_ ?_
 ·(intro W hW;(try dsimp only at hW);go_simp)
 try simp only [Act.put,List.setIfInBounds_toArray,List.set_cons_zero,List.set_cons_succ]
 refine tkq 5 (.int .i64 3) 46 rfl rfl rfl (by kernel_rfl) (fun _ _ _ h=>h) (by rfl) hHeld ?_ ?_
 ·(intro W hW;(try dsimp only at hW);go_simp)
 try simp only [Act.put,List.setIfInBounds_toArray,List.set_cons_zero,List.set_cons_succ]
 refine tkq 6 (.pointer (some ⟨q3,3,none⟩)) 47 rfl rfl rfl (by kernel_rfl) (fun _ _ _ h=>h) (by rfl) hHeld ?_ ?_
 ·(intro W hW;(try dsimp only at hW);go_simp)
 try simp only [Act.put,List.setIfInBounds_toArray,List.set_cons_zero,List.set_cons_succ]
 refine tkq 7 (.string ⟨#[47]⟩) 48 rfl rfl rfl (by kernel_rfl) (fun _ _ _ h=>h) (by rfl) hHeld ?_ ?_
 ·(intro W hW;(try dsimp only at hW);have rc:=cellB hW RC.out;go_simp)
 try simp only [Act.put,List.setIfInBounds_toArray,List.set_cons_zero,List.set_cons_succ]
 refine tkq 10 (.int .i64 (b:Nat)) 51 rfl rfl rfl (by kernel_rfl) (fun _ _ _ h=>h) (by rfl) hHeld ?_ ?_
 ·(intro W hW;(try dsimp only at hW);go_simp)
 try simp only [Act.put,List.setIfInBounds_toArray,List.set_cons_zero,List.set_cons_succ]
 refine wpAnyH_ready (rs:=[1]) (by kernel_rfl) (by simp) ?_
 refine cons2 rfl rfl (fun K9 hK=>?_)
 have KV:=hid (L1.out v0)
 go_simp
 refine Calls.mono KV.out ?_
 rintro e9 v1 ⟨rfl,b7⟩
 clear KV
 have BN:=hid (nextB BB.out b7)
 clear b7
 go_wp2_with fail
 refine hK.out _ _ BN.out (fun hX=>?_)
 clear hK K9 hHeld
 have hHeld:=hX
 clear hX
 try simp only [Act.put,List.setIfInBounds_toArray,List.set_cons_zero,List.set_cons_succ]
 clear BB
 have BB:=BN
 clear BN
 refine tkq 2 (.string (⟨#[114,117,108,101,32,114,32,99,111,117,110,116,32,61,32]⟩ ++ DA)) 43 rfl rfl rfl (by kernel_rfl) (fun _ _ _ h=>h) (by rfl) hHeld ?_ ?_
 ·(intro W hW;(try dsimp only at hW);go_simp;try omega)
 try simp only [Act.put,List.setIfInBounds_toArray,List.set_cons_zero,List.set_cons_succ]
 refine tkq 3 (.string ((⟨#[114,117,108,101,32,114,32,99,111,117,110,116,32,61,32]⟩ ++ DA) ++ ⟨#[32]⟩)) 44 rfl rfl rfl (by kernel_rfl) (fun _ _ _ h=>h) (by rfl) hHeld ?_ ?_
 ·(intro W hW;(try dsimp only at hW);go_simp;try omega)
 try simp only [Act.put,List.setIfInBounds_toArray,List.set_cons_zero,List.set_cons_succ]
 refine tkq 8 (.string (((⟨#[114,117,108,101,32,114,32,99,111,117,110,116,32,61,32]⟩ ++ DA) ++ ⟨#[32]⟩) ++ ⟨#[47]⟩)) 49 rfl rfl rfl (by kernel_rfl) (fun _ _ _ h=>h) (by rfl) hHeld ?_ ?_
 ·(intro W hW;(try dsimp only at hW);go_simp;try omega)
 try simp only [Act.put,List.setIfInBounds_toArray,List.set_cons_zero,List.set_cons_succ]
 refine tkq 9 (.string ((((⟨#[114,117,108,101,32,114,32,99,111,117,110,116,32,61,32]⟩ ++ DA) ++ ⟨#[32]⟩) ++ ⟨#[47]⟩) ++ ⟨#[32]⟩)) 50 rfl rfl rfl (by kernel_rfl) (fun _ _ _ h=>h) (by rfl) hHeld ?_ ?_
 ·(intro W hW;(try dsimp only at hW);go_simp;try omega)
 try simp only [Act.put,List.setIfInBounds_toArray,List.set_cons_zero,List.set_cons_succ]
 refine wpAnyH_ready (rs:=[11]) (by kernel_rfl) (by simp) ?_
 refine cons2 rfl rfl (fun K9 hK=>?_)
 have KV:=hid (L2.out v1)
 go_simp
 refine Calls.mono KV.out ?_
 rintro e9 v2 ⟨rfl,b7⟩
 clear KV
 have BN:=hid (nextB BB.out b7)
 clear b7
 go_wp2_with fail
 refine hK.out _ _ BN.out (fun hX=>?_)
 clear hK K9 hHeld
 have hHeld:=hX
 clear hX
 try simp only [Act.put,List.setIfInBounds_toArray,List.set_cons_zero,List.set_cons_succ]
 clear BB
 have BB:=BN
 clear BN
 refine tkq 12 (.string (((((⟨#[114,117,108,101,32,114,32,99,111,117,110,116,32,61,32]⟩ ++ DA) ++ ⟨#[32]⟩) ++ ⟨#[47]⟩) ++ ⟨#[32]⟩) ++ DB)) 53 rfl rfl rfl (by kernel_rfl) (fun _ _ _ h=>h) (by rfl) hHeld ?_ ?_
 ·(intro W hW;(try dsimp only at hW);go_simp;try omega)
 try simp only [Act.put,List.setIfInBounds_toArray,List.set_cons_zero,List.set_cons_succ]
 refine tkq 13 (.string ((((((⟨#[114,117,108,101,32,114,32,99,111,117,110,116,32,61,32]⟩ ++ DA) ++ ⟨#[32]⟩) ++ ⟨#[47]⟩) ++ ⟨#[32]⟩) ++ DB) ++ ⟨#[59]⟩)) 54 rfl rfl rfl (by kernel_rfl) (fun _ _ _ h=>h) (by rfl) hHeld ?_ ?_
 ·(intro W hW;(try dsimp only at hW);go_simp;try omega)
 try simp only [Act.put,List.setIfInBounds_toArray,List.set_cons_zero,List.set_cons_succ]
 refine tkq 14 (.string ((((((⟨#[114,117,108,101,32,114,32,99,111,117,110,116,32,61,32]⟩ ++ DA) ++ ⟨#[32]⟩) ++ ⟨#[47]⟩) ++ ⟨#[32]⟩) ++ DB) ++ ⟨#[59]⟩)) 8 rfl rfl rfl (by kernel_rfl) (fun _ _ _ h=>h) (by rfl) hHeld ?_ ?_
 ·(intro W hW;(try dsimp only at hW);go_simp)
 try simp only [Act.put,List.setIfInBounds_toArray,List.set_cons_zero,List.set_cons_succ]
 refine wpAnyH_done (by kernel_rfl) ?_ _
 have B5:=hid (nextB B3.out BB.out)
 clear BB B3 RC hHeld L1 L2
 have kr:=hid (KR.out v2)
 generalize ((((((⟨#[114,117,108,101,32,114,32,99,111,117,110,116,32,61,32]⟩ ++ DA) ++ ⟨#[32]⟩) ++ ⟨#[47]⟩) ++ ⟨#[32]⟩) ++ DB) ++ ⟨#[59]⟩)=TX at *
 clear KR z1 z2
 go_upto_region 8 with (go_at_call 6;(with_reducible refine Calls.mono kr.out ?_);rintro e w7 ⟨sa,sb,sm,sc,sn,sd,rfl,n7,b7⟩;have B7:=hid (nextB B5.out b7);have N7:=hid n7;clear n7 b7)
 have bX:=(show Below w7.heap.size w7 ((w7.alloc (.cells #[.string ⟨#[115,116,97,116,117,116,101]⟩,.string ⟨#[]⟩,.int .i64 0,.int .i64 0,.int .i64 0,.slice sa sm sc] 28)).alloc (.cells #[.string ⟨#[115,116,97,116,117,116,101]⟩,.string ⟨#[]⟩,.int .i64 0,.int .i64 0,.int .i64 0,.slice sb sn sd] 31)) from ((Below.refl _ _).alloc (Nat.le_refl _) _).alloc (by simp) _)
 have B8:=hid (nextB B7.out bX)
 have X8:=hid (show B6 ((w7.alloc (.cells #[.string ⟨#[115,116,97,116,117,116,101]⟩,.string ⟨#[]⟩,.int .i64 0,.int .i64 0,.int .i64 0,.slice sa sm sc] 28)).alloc (.cells #[.string ⟨#[115,116,97,116,117,116,101]⟩,.string ⟨#[]⟩,.int .i64 0,.int .i64 0,.int .i64 0,.slice sb sn sd] 31)) w7.heap.size (.string ⟨#[115,116,97,116,117,116,101]⟩) (.string ⟨#[]⟩) (.int .i64 0) (.int .i64 0) (.int .i64 0) (.slice sa sm sc) from (B6.new w7 28 (.string ⟨#[115,116,97,116,117,116,101]⟩) (.string ⟨#[]⟩) (.int .i64 0) (.int .i64 0) (.int .i64 0) (.slice sa sm sc)).next ((Below.refl _ _).alloc (Nat.le_refl _) _))
 have N8:=hid (N7.out.any bX)
 clear bX N7 B7 kr B5
 generalize World.alloc (World.alloc w7 _) _=w8 at *
 generalize w7.heap.size=q8 at *
 have kf:=hid (KF.out w8 (HT.out.next B8.out) sa sm sc N8.out)
 clear KF
 obtain ⟨x0,x1,x2,x3,x4,x5,xz⟩:=X8.out
 go_upto_region 9 with (go_at_call 7;(with_reducible refine Calls.mono kf.out ?_);rintro e w9 ⟨ga,ca,gb,cb,ta,tm,tc,rfl,r5,nc,nk,nm,b9⟩;have B9:=hid (nextB B8.out b9);have X9:=hid (X8.out.next b9);have N9:=hid (N8.out.any b9);have R9:=hid r5;have C9:=hid nc;have K9:=hid nk;have M9:=hid nm;clear r5 nc nk nm b9)
 clear x0 x1 x2 x3 x4 x5 xz X8 N8 B8 kf HT
 have bX:=(show Below w9.heap.size w9 (w9.alloc (.cells #[.string ⟨#[115,116,97,116,117,116,101]⟩,.string ⟨#[]⟩,.int .i64 0,.int .i64 0,.int .i64 0,.slice (some ⟨ga,0,none⟩) 1 ca] 28)) from (Below.refl _ _).alloc (Nat.le_refl _) _)
 have B10:=hid (nextB B9.out bX)
 have X10:=hid (X9.out.next bX)
 have Y10:=hid (B6.new w9 28 (.string ⟨#[115,116,97,116,117,116,101]⟩) (.string ⟨#[]⟩) (.int .i64 0) (.int .i64 0) (.int .i64 0) (.slice (some ⟨ga,0,none⟩) 1 ca))
 have N10:=hid (N9.out.any bX)
 have R10:=hid (cellB bX R9.out)
 have C10:=hid (C9.out.keep (bX.block _ (World.block_lt_of_cell? _ _ C9.out.e0)))
 have K10:=hid (K9.out.any bX)
 have M10:=hid (M9.out.any bX)
 clear bX B9 X9 N9 R9 C9 K9 M9
 generalize World.alloc w9 _=w10 at *
 generalize w9.heap.size=q10 at *
 obtain ⟨y0,y1,y2,y3,y4,y5,yz⟩:=Y10.out
 obtain ⟨k0,k1,k2,k3,k4,k5⟩:=C10.out
 have r5:=R10.out
 go_upto_region 12 with fail
 clear y0 y1 y2 y3 y4 y5 yz k0 k1 k2 k3 k4 k5 r5
 have bX:=(show Below w10.heap.size w10 (w10.alloc (.cells #[.string E.op,.string E.name,.int .i64 (E.kind:Nat),.int .i64 E.n,.int .i64 (E.pl:Nat),.slice ta tm tc] 28)) from (Below.refl _ _).alloc (Nat.le_refl _) _)
 have B11:=hid (nextB B10.out bX)
 have X11:=hid (X10.out.next bX)
 have Y11:=hid (Y10.out.next bX)
 have N11:=hid (N10.out.any bX)
 have M11:=hid (M10.out.any bX)
 have Z11:=hid (B6.new w10 28 (.string E.op) (.string E.name) (.int .i64 (E.kind:Nat)) (.int .i64 E.n) (.int .i64 (E.pl:Nat)) (.slice ta tm tc))
 clear bX B10 X10 Y10 N10 R10 C10 M10
 generalize World.alloc w10 _=w11 at *
 generalize w10.heap.size=q11 at *
 have es:Value.slice ta tm tc=.slice none 0 0:=Nd.k0 (by have:=K10.out;rw [EK.out] at this;exact this)
 injection es with e1 e2 e3
 subst e1 e2 e3
 rw [EN.out] at Z11
 clear K10 N11 M11 X11 Y11 EN EK
 obtain ⟨x0,x1,x2,x3,x4,x5,xz⟩:=Z11.out
 have kz:=hid (KZ.out w11)
 clear KZ Z11
 go_wp2_with (go_at_call 9;(with_reducible refine Calls.mono kz.out ?_);rintro e w12 ⟨rfl,b12⟩;have BZ:=hid (nextB B11.out b12);clear b12)
 go_returns
 exact ⟨rfl,BZ.out⟩
set_option maxRecDepth 100000 in
set_option maxHeartbeats 8000000 in
theorem lits_div_no (a b:Nat) (ha:a≤4503599627370496) (hb:b≤4503599627370496) (q0:((b:Int)==0)=true) (q1:((b:Int) != 0)=false) (hE:fdE (eS ⟨#[47]⟩ a b (15+(dec a).length+1) (15+(dec a).length+3))=eS ⟨#[47]⟩ a b (15+(dec a).length+1) (15+(dec a).length+3)) (w:World) (hT:TabU w):Calls Tryd.prog 3 #[.int .i64 (a:Nat),.int .i64 (b:Nat),.int .i64 3] w fun e w'=>e=.returned (.bool true)∧Below w.heap.size w w':=by
 have HT:=hid hT
 have KA:=hid (awakeF w hT)
 have KR:=hid (fun W=>read_l [47] (by simp [opL]) rfl a b ha hb W)
 rw [← sl_text] at KR
 rw [show tx [47]=⟨#[47]⟩ from rfl] at KR
 have L1:=hid (fun W=>lit_2 a W ha)
 have L2:=hid (fun W=>lit_2 b W hb)
 have GE':=hid (gx_eS (o:=⟨#[47]⟩) rfl rfl (a:=a) (b:=b) (p:=15+(dec a).length+1) (q:=15+(dec a).length+3) ha hb)
 obtain ⟨E,hE2⟩:∃ E,fdE (eS ⟨#[47]⟩ a b (15+(dec a).length+1) (15+(dec a).length+3))=E:=⟨_,rfl⟩
 have KF:=hid (fun W hW sa sm sc h=>fold_l (eS ⟨#[47]⟩ a b (15+(dec a).length+1) (15+(dec a).length+3)) E GE'.out hE2 W hW sa sm sc h)
 have z1:(tx (dec a)).size≤21:=by rw [tx_sz];exact (dec_len a).2
 have z2:(tx (dec b)).size≤21:=by rw [tx_sz];exact (dec_len b).2
 rw [hE] at hE2
 have KM:=hid (show ∀ W aa am ac ba bm bc,Nd W (fun _=>True) (.slice aa am ac) (tS E).kids→Nd W (fun _=>True) (.slice ba bm bc) (tS (eS ⟨#[47]⟩ a b (15+(dec a).length+1) (15+(dec a).length+3))).kids→Calls Tryd.prog 8 #[.agg #[.string ⟨#[115,116,97,116,117,116,101]⟩,.string ⟨#[]⟩,.int .i64 0,.int .i64 0,.int .i64 0,.slice aa am ac],.agg #[.string ⟨#[115,116,97,116,117,116,101]⟩,.string ⟨#[]⟩,.int .i64 0,.int .i64 0,.int .i64 0,.slice ba bm bc]] W fun e w'=>e=.returned (.bool true)∧Below W.heap.size W w' from fun W aa am ac ba bm bc h1 h2=>by
  have nw:Nw (tS E):=by
   rw [← hE2]
   refine .nd _ _ _ _ _ _ (by simp) (fun t ht=>?_)
   simp only [List.mem_cons,List.not_mem_nil,or_false] at ht
   subst ht
   refine .nd _ _ _ _ _ _ (by simp) (fun t ht=>?_)
   simp only [List.mem_cons,List.not_mem_nil,or_false] at ht
   subst ht
   refine .nd _ _ _ _ _ _ (by simp) (fun t ht=>?_)
   simp only [List.mem_cons,List.not_mem_nil,or_false] at ht
   rcases ht with rfl | rfl
   ·exact .nd _ _ _ _ _ [] (by decide) (fun t h=>by simp at h)
   ·exact .nd _ _ _ _ _ [] (by decide) (fun t h=>by simp at h)
  rw [hE2] at h2
  have k:=same_any nw (tS E) W (fun _=>True) aa ba am ac bm bc h1 h2
  rw [sm_ref] at k
  exact k)
 clear hE hE2
 clear hT GE'
 generalize tx (dec a)=DA at *
 generalize tx (dec b)=DB at *
 have a0:¬ (a:Int)<0:=by omega
 have a1:¬ (4503599627370496:Int)<(a:Int):=by omega
 have b0:¬ (b:Int)<0:=by omega
 have b1:¬ (4503599627370496:Int)<(b:Int):=by omega
 clear ha hb
 generalize (tS (eS ⟨#[47]⟩ a b (15+(dec a).length+1) (15+(dec a).length+3))).kids=NK at *
 go_enter Tryd.func3,Tryd.ntmps3
 go_upto_region 3 with (go_at_call 4;(with_reducible refine Calls.mono KA.out ?_);rintro e w2 ⟨rfl,b2⟩;have B2:=hid b2;clear b2)
 have bX:=(show Below w2.heap.size w2 (w2.alloc (.cells #[.string ⟨#[43]⟩,.string ⟨#[45]⟩,.string ⟨#[42]⟩,.string ⟨#[47]⟩] 9)) from (Below.refl _ _).alloc (Nat.le_refl _) _)
 have B3:=hid (nextB B2.out bX)
 have RC:=hid (show (w2.alloc (.cells #[.string ⟨#[43]⟩,.string ⟨#[45]⟩,.string ⟨#[42]⟩,.string ⟨#[47]⟩] 9)).cell? ⟨w2.heap.size,3,none⟩=some (.string ⟨#[47]⟩) from by simp)
 clear bX B2 KA
 go_upto_region 6 with fail
 clear a0 a1 b0 b1
 generalize World.alloc w2 _=w3 at *
 generalize w2.heap.size=q3 at *
 refine wp_region_held_drew (S:=fun W=>Below w3.heap.size w3 W) (by kernel_rfl) (Below.refl _ _).drew (fun hHeld=>?_)
 have BB:=hid (show Below w3.heap.size w3 w3.drew from (Below.refl _ _).drew)
 generalize w3.drew=v0 at *
 refine tkq 0 (.int .i64 (a:Nat)) 41 rfl rfl rfl (by kernel_rfl) (fun _ _ _ h=>h) (by rfl) hHeld ?_ ?_
 ·(intro W hW;(try dsimp only at hW);go_simp)
 try simp only [Act.put,List.setIfInBounds_toArray,List.set_cons_zero,List.set_cons_succ]
 refine tkq 4 (.slice (some ⟨q3,0,none⟩) 4 4) 45 rfl rfl rfl (by kernel_rfl) (fun _ _ _ h=>h) (by rfl) hHeld ?_ ?_
 ·(intro W hW;(try dsimp only at hW);go_simp)
 try simp only [Act.put,List.setIfInBounds_toArray,List.set_cons_zero,List.set_cons_succ]
 refine tkq 5 (.int .i64 3) 46 rfl rfl rfl (by kernel_rfl) (fun _ _ _ h=>h) (by rfl) hHeld ?_ ?_
 ·(intro W hW;(try dsimp only at hW);go_simp)
 try simp only [Act.put,List.setIfInBounds_toArray,List.set_cons_zero,List.set_cons_succ]
 refine tkq 6 (.pointer (some ⟨q3,3,none⟩)) 47 rfl rfl rfl (by kernel_rfl) (fun _ _ _ h=>h) (by rfl) hHeld ?_ ?_
 ·(intro W hW;(try dsimp only at hW);go_simp)
 try simp only [Act.put,List.setIfInBounds_toArray,List.set_cons_zero,List.set_cons_succ]
 refine tkq 7 (.string ⟨#[47]⟩) 48 rfl rfl rfl (by kernel_rfl) (fun _ _ _ h=>h) (by rfl) hHeld ?_ ?_
 ·(intro W hW;(try dsimp only at hW);have rc:=cellB hW RC.out;go_simp)
 try simp only [Act.put,List.setIfInBounds_toArray,List.set_cons_zero,List.set_cons_succ]
 refine tkq 10 (.int .i64 (b:Nat)) 51 rfl rfl rfl (by kernel_rfl) (fun _ _ _ h=>h) (by rfl) hHeld ?_ ?_
 ·(intro W hW;(try dsimp only at hW);go_simp)
 try simp only [Act.put,List.setIfInBounds_toArray,List.set_cons_zero,List.set_cons_succ]
 refine wpAnyH_ready (rs:=[1]) (by kernel_rfl) (by simp) ?_
 refine cons2 rfl rfl (fun K9 hK=>?_)
 have KV:=hid (L1.out v0)
 go_simp
 refine Calls.mono KV.out ?_
 rintro e9 v1 ⟨rfl,b7⟩
 clear KV
 have BN:=hid (nextB BB.out b7)
 clear b7
 go_wp2_with fail
 refine hK.out _ _ BN.out (fun hX=>?_)
 clear hK K9 hHeld
 have hHeld:=hX
 clear hX
 try simp only [Act.put,List.setIfInBounds_toArray,List.set_cons_zero,List.set_cons_succ]
 clear BB
 have BB:=BN
 clear BN
 refine tkq 2 (.string (⟨#[114,117,108,101,32,114,32,99,111,117,110,116,32,61,32]⟩ ++ DA)) 43 rfl rfl rfl (by kernel_rfl) (fun _ _ _ h=>h) (by rfl) hHeld ?_ ?_
 ·(intro W hW;(try dsimp only at hW);go_simp;try omega)
 try simp only [Act.put,List.setIfInBounds_toArray,List.set_cons_zero,List.set_cons_succ]
 refine tkq 3 (.string ((⟨#[114,117,108,101,32,114,32,99,111,117,110,116,32,61,32]⟩ ++ DA) ++ ⟨#[32]⟩)) 44 rfl rfl rfl (by kernel_rfl) (fun _ _ _ h=>h) (by rfl) hHeld ?_ ?_
 ·(intro W hW;(try dsimp only at hW);go_simp;try omega)
 try simp only [Act.put,List.setIfInBounds_toArray,List.set_cons_zero,List.set_cons_succ]
 refine tkq 8 (.string (((⟨#[114,117,108,101,32,114,32,99,111,117,110,116,32,61,32]⟩ ++ DA) ++ ⟨#[32]⟩) ++ ⟨#[47]⟩)) 49 rfl rfl rfl (by kernel_rfl) (fun _ _ _ h=>h) (by rfl) hHeld ?_ ?_
 ·(intro W hW;(try dsimp only at hW);go_simp;try omega)
 try simp only [Act.put,List.setIfInBounds_toArray,List.set_cons_zero,List.set_cons_succ]
 refine tkq 9 (.string ((((⟨#[114,117,108,101,32,114,32,99,111,117,110,116,32,61,32]⟩ ++ DA) ++ ⟨#[32]⟩) ++ ⟨#[47]⟩) ++ ⟨#[32]⟩)) 50 rfl rfl rfl (by kernel_rfl) (fun _ _ _ h=>h) (by rfl) hHeld ?_ ?_
 ·(intro W hW;(try dsimp only at hW);go_simp;try omega)
 try simp only [Act.put,List.setIfInBounds_toArray,List.set_cons_zero,List.set_cons_succ]
 refine wpAnyH_ready (rs:=[11]) (by kernel_rfl) (by simp) ?_
 refine cons2 rfl rfl (fun K9 hK=>?_)
 have KV:=hid (L2.out v1)
 go_simp
 refine Calls.mono KV.out ?_
 rintro e9 v2 ⟨rfl,b7⟩
 clear KV
 have BN:=hid (nextB BB.out b7)
 clear b7
 go_wp2_with fail
 refine hK.out _ _ BN.out (fun hX=>?_)
 clear hK K9 hHeld
 have hHeld:=hX
 clear hX
 try simp only [Act.put,List.setIfInBounds_toArray,List.set_cons_zero,List.set_cons_succ]
 clear BB
 have BB:=BN
 clear BN
 refine tkq 12 (.string (((((⟨#[114,117,108,101,32,114,32,99,111,117,110,116,32,61,32]⟩ ++ DA) ++ ⟨#[32]⟩) ++ ⟨#[47]⟩) ++ ⟨#[32]⟩) ++ DB)) 53 rfl rfl rfl (by kernel_rfl) (fun _ _ _ h=>h) (by rfl) hHeld ?_ ?_
 ·(intro W hW;(try dsimp only at hW);go_simp;try omega)
 try simp only [Act.put,List.setIfInBounds_toArray,List.set_cons_zero,List.set_cons_succ]
 refine tkq 13 (.string ((((((⟨#[114,117,108,101,32,114,32,99,111,117,110,116,32,61,32]⟩ ++ DA) ++ ⟨#[32]⟩) ++ ⟨#[47]⟩) ++ ⟨#[32]⟩) ++ DB) ++ ⟨#[59]⟩)) 54 rfl rfl rfl (by kernel_rfl) (fun _ _ _ h=>h) (by rfl) hHeld ?_ ?_
 ·(intro W hW;(try dsimp only at hW);go_simp;try omega)
 try simp only [Act.put,List.setIfInBounds_toArray,List.set_cons_zero,List.set_cons_succ]
 refine tkq 14 (.string ((((((⟨#[114,117,108,101,32,114,32,99,111,117,110,116,32,61,32]⟩ ++ DA) ++ ⟨#[32]⟩) ++ ⟨#[47]⟩) ++ ⟨#[32]⟩) ++ DB) ++ ⟨#[59]⟩)) 8 rfl rfl rfl (by kernel_rfl) (fun _ _ _ h=>h) (by rfl) hHeld ?_ ?_
 ·(intro W hW;(try dsimp only at hW);go_simp)
 try simp only [Act.put,List.setIfInBounds_toArray,List.set_cons_zero,List.set_cons_succ]
 refine wpAnyH_done (by kernel_rfl) ?_ _
 have B5:=hid (nextB B3.out BB.out)
 clear BB B3 RC hHeld L1 L2
 have kr:=hid (KR.out v2)
 generalize ((((((⟨#[114,117,108,101,32,114,32,99,111,117,110,116,32,61,32]⟩ ++ DA) ++ ⟨#[32]⟩) ++ ⟨#[47]⟩) ++ ⟨#[32]⟩) ++ DB) ++ ⟨#[59]⟩)=TX at *
 clear KR z1 z2
 go_upto_region 8 with (go_at_call 6;(with_reducible refine Calls.mono kr.out ?_);rintro e w7 ⟨sa,sb,sm,sc,sn,sd,rfl,n7,b7⟩;have B7:=hid (nextB B5.out b7);have N7:=hid n7;clear n7 b7)
 have bX:=(show Below w7.heap.size w7 ((w7.alloc (.cells #[.string ⟨#[115,116,97,116,117,116,101]⟩,.string ⟨#[]⟩,.int .i64 0,.int .i64 0,.int .i64 0,.slice sa sm sc] 28)).alloc (.cells #[.string ⟨#[115,116,97,116,117,116,101]⟩,.string ⟨#[]⟩,.int .i64 0,.int .i64 0,.int .i64 0,.slice sb sn sd] 31)) from ((Below.refl _ _).alloc (Nat.le_refl _) _).alloc (by simp) _)
 have B8:=hid (nextB B7.out bX)
 have X8:=hid (show B6 ((w7.alloc (.cells #[.string ⟨#[115,116,97,116,117,116,101]⟩,.string ⟨#[]⟩,.int .i64 0,.int .i64 0,.int .i64 0,.slice sa sm sc] 28)).alloc (.cells #[.string ⟨#[115,116,97,116,117,116,101]⟩,.string ⟨#[]⟩,.int .i64 0,.int .i64 0,.int .i64 0,.slice sb sn sd] 31)) w7.heap.size (.string ⟨#[115,116,97,116,117,116,101]⟩) (.string ⟨#[]⟩) (.int .i64 0) (.int .i64 0) (.int .i64 0) (.slice sa sm sc) from (B6.new w7 28 (.string ⟨#[115,116,97,116,117,116,101]⟩) (.string ⟨#[]⟩) (.int .i64 0) (.int .i64 0) (.int .i64 0) (.slice sa sm sc)).next ((Below.refl _ _).alloc (Nat.le_refl _) _))
 have N8:=hid (N7.out.any bX)
 clear bX N7 B7 kr B5
 generalize World.alloc (World.alloc w7 _) _=w8 at *
 generalize w7.heap.size=q8 at *
 have kf:=hid (KF.out w8 (HT.out.next B8.out) sa sm sc N8.out)
 clear KF
 obtain ⟨x0,x1,x2,x3,x4,x5,xz⟩:=X8.out
 go_upto_region 9 with (go_at_call 7;(with_reducible refine Calls.mono kf.out ?_);rintro e w9 ⟨ga,ca,gb,cb,ta,tm,tc,rfl,r5,nc,nk,nm,b9⟩;have B9:=hid (nextB B8.out b9);have X9:=hid (X8.out.next b9);have N9:=hid (N8.out.any b9);have R9:=hid r5;have C9:=hid nc;have K9:=hid nk;have M9:=hid nm;clear r5 nc nk nm b9)
 clear x0 x1 x2 x3 x4 x5 xz X8 N8 B8 kf HT
 have bX:=(show Below w9.heap.size w9 (w9.alloc (.cells #[.string ⟨#[115,116,97,116,117,116,101]⟩,.string ⟨#[]⟩,.int .i64 0,.int .i64 0,.int .i64 0,.slice (some ⟨ga,0,none⟩) 1 ca] 28)) from (Below.refl _ _).alloc (Nat.le_refl _) _)
 have B10:=hid (nextB B9.out bX)
 have X10:=hid (X9.out.next bX)
 have Y10:=hid (B6.new w9 28 (.string ⟨#[115,116,97,116,117,116,101]⟩) (.string ⟨#[]⟩) (.int .i64 0) (.int .i64 0) (.int .i64 0) (.slice (some ⟨ga,0,none⟩) 1 ca))
 have N10:=hid (N9.out.any bX)
 have R10:=hid (cellB bX R9.out)
 have C10:=hid (C9.out.keep (bX.block _ (World.block_lt_of_cell? _ _ C9.out.e0)))
 have K10:=hid (K9.out.any bX)
 have M10:=hid (M9.out.any bX)
 clear bX B9 X9 N9 R9 C9 K9 M9
 generalize World.alloc w9 _=w10 at *
 generalize w9.heap.size=q10 at *
 obtain ⟨y0,y1,y2,y3,y4,y5,yz⟩:=Y10.out
 obtain ⟨k0,k1,k2,k3,k4,k5⟩:=C10.out
 have r5:=R10.out
 go_upto_region 12 with fail
 clear y0 y1 y2 y3 y4 y5 yz k0 k1 k2 k3 k4 k5 r5
 have bX:=(show Below w10.heap.size w10 (w10.alloc (.cells #[.string E.op,.string E.name,.int .i64 (E.kind:Nat),.int .i64 E.n,.int .i64 (E.pl:Nat),.slice ta tm tc] 28)) from (Below.refl _ _).alloc (Nat.le_refl _) _)
 have B11:=hid (nextB B10.out bX)
 have X11:=hid (X10.out.next bX)
 have Y11:=hid (Y10.out.next bX)
 have N11:=hid (N10.out.any bX)
 have M11:=hid (M10.out.any bX)
 have Z11:=hid (B6.new w10 28 (.string E.op) (.string E.name) (.int .i64 (E.kind:Nat)) (.int .i64 E.n) (.int .i64 (E.pl:Nat)) (.slice ta tm tc))
 clear bX B10 X10 Y10 N10 R10 C10 M10
 generalize World.alloc w10 _=w11 at *
 generalize w10.heap.size=q11 at *
 have km:=hid (KM.out w11 _ _ _ _ _ _ M11.out N11.out)
 obtain ⟨x0,x1,x2,x3,x4,x5,xz⟩:=X11.out
 obtain ⟨y0,y1,y2,y3,y4,y5,yz⟩:=Y11.out
 clear K10 N11 M11 X11 Y11 Z11 KM
 go_wp2_with (go_at_call 8;(with_reducible refine Calls.mono km.out ?_);rintro e w12 ⟨rfl,b12⟩;have BZ:=hid (nextB B11.out b12);clear b12)
 go_returns
 exact ⟨rfl,BZ.out⟩
end Go.Proofs.YtbeahnehjannpaaDoor
