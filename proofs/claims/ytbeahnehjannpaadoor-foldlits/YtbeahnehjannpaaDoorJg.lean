/- Parts of the proof. -/
import Derived.Test.YtbeahnehjannpaaDoorJf
import Derived.Deep.RegionHeld3
namespace Go.Proofs.YtbeahnehjannpaaDoor
open Go.RowKit
set_option linter.unusedVariables false
set_option linter.unusedSimpArgs false
theorem tak2 {P:Program} {md:Region.Mode} {ops:Array Oper} {Q:Exit→Act→World→Prop} {S:World→Prop} {l:List Oper} (hl:ops=l.toArray) {i:Nat} {oi:Oper} {v:Value} {d:Tmp} {fuel:Nat} {listed:Array Bool} {a:Act} {w:World} (hi:l[i]?=some oi) (hd:oi.dst=some d)
  (hs:Region.noSelect ops=true) (hf:Region.free md ops listed i=true) (hr:(Region.ready md ops listed).contains i=true)
  (hQ:∀ c a w,Q (.panic c) (a.put oi.dst v) w→Q (.panic c) a w) (hy:YieldsIf P ops S oi v a) (hS:S w)
  (h:wpAnyH P md ops Q S fuel (listed.setIfInBounds i true) (a.put (some d) v) w):wpAnyH P md ops Q S (fuel+1) listed a w :=
 wpAnyH_take (by rw [hl];simpa using hi) hs hf hr hQ hy hS (by rw [hd];exact h)
theorem tkq {P:Program} {md:Region.Mode} {ops:Array Oper} {Q:Exit→Act→World→Prop} {S:World→Prop} {l:List Oper} {oi:Oper} {fuel:Nat} {listed:Array Bool} {a:Act} {w:World} (i:Nat) (v:Value) (d:Tmp) (hl:ops=l.toArray) (hi:l[i]?=some oi) (hd:oi.dst=some d)
  (hk:(Region.noSelect ops && Region.free md ops listed i && (Region.ready md ops listed).contains i)=true) (hQ:∀ c a w,Q (.panic c) (a.put oi.dst v) w→Q (.panic c) a w) (hw:Region.wanted oi (yielded ops a.tmps)=true) (hS:S w) (hy:∀ W,S W→(execOp a.eval oi).run P W=.ok (.value v) W)
  (h:wpAnyH P md ops Q S fuel (listed.setIfInBounds i true) (a.put (some d) v) w):wpAnyH P md ops Q S (fuel+1) listed a w:=by
 simp only [Bool.and_eq_true] at hk
 exact tak2 hl hi hd hk.1.1 hk.1.2 hk.2 hQ (Or.inl ⟨hw,hy⟩) hS h
theorem Nd.len2 {w:World} {S:Nat→Prop} {v:Value} {ts:List Tr} (h:Nd w S v ts):∃ a c,v=.slice a ts.length c:=by
 cases h with
 | nil=>exact ⟨_,_,rfl⟩
 | row g c ts sl hs h0 hc hk=>exact ⟨_,_,rfl⟩
set_option maxRecDepth 100000 in
set_option maxHeartbeats 8000000 in
theorem isTrue_any (t:Tr) (sl:Value) (w:World):Calls Tryd.prog 30 #[.agg #[.string t.op,.string t.name,.int .i64 (t.kind:Nat),.int .i64 t.n,.int .i64 (t.pl:Nat),sl]] w fun e w'=>e=.returned (.bool (t.n==1))∧Below w.heap.size w w':=by
 have A1:=hid (show Below w.heap.size w (w.alloc (.cells #[.string t.op,.string t.name,.int .i64 (t.kind:Nat),.int .i64 t.n,.int .i64 (t.pl:Nat),sl] 28)) from (Below.refl _ _).alloc (Nat.le_refl _) _)
 go_enter Tryd.func30,Tryd.ntmps30
 go_wp2_with fail
 go_returns
 exact ⟨rfl,A1.out⟩
set_option maxRecDepth 100000 in
set_option maxHeartbeats 8000000 in
theorem isLit_any (t:Tr) (sl:Value) (S:Nat→Prop) (w:World) (hd:Nd w S sl t.kids):Calls Tryd.prog 19 #[.agg #[.string t.op,.string t.name,.int .i64 (t.kind:Nat),.int .i64 t.n,.int .i64 (t.pl:Nat),sl]] w fun e w'=>e=.returned (.bool (ltB t))∧Below w.heap.size w w':=by
 obtain ⟨a,c,rfl⟩:=hd.len2
 clear hd
 have A1:=hid (show Below w.heap.size w (w.alloc (.cells #[.string t.op,.string t.name,.int .i64 (t.kind:Nat),.int .i64 t.n,.int .i64 (t.pl:Nat),.slice a t.kids.length c] 28)) from (Below.refl _ _).alloc (Nat.le_refl _) _)
 cases q:eqB t.op ⟨#[108,105,116]⟩ with
 | false =>
  have z:(t.op.toList==[108,105,116])=false:=(eqL _ _).trans q
  rw [show ltB t=false from by unfold ltB;rw [q];rfl]
  clear q
  go_enter Tryd.func19,Tryd.ntmps19
  go_wp2_with fail
  go_returns
  exact ⟨rfl,A1.out⟩
 | true =>
  have z:(t.op.toList==[108,105,116])=true:=(eqL _ _).trans q
  by_cases k:t.kids.length=0
  ·have z2:=eqM (t.kids.length:Int) 0 (by omega)
   rw [show ltB t=true from by unfold ltB;rw [q,k];rfl]
   clear q k
   go_enter Tryd.func19,Tryd.ntmps19
   go_wp2_with fail
   go_returns
   exact ⟨rfl,A1.out⟩
  ·have z2:=beqM (t.kids.length:Int) 0 (by omega)
   rw [show ltB t=false from by unfold ltB;rw [q];simpa using k]
   clear q k
   go_enter Tryd.func19,Tryd.ntmps19
   go_wp2_with fail
   go_returns
   exact ⟨rfl,A1.out⟩
set_option maxRecDepth 100000 in
set_option maxHeartbeats 8000000 in
theorem value_any (t:Tr) (sl:Value) (w:World):Calls Tryd.prog 29 #[.agg #[.string t.op,.string t.name,.int .i64 (t.kind:Nat),.int .i64 t.n,.int .i64 (t.pl:Nat),sl]] w fun e w'=>e=.returned (vl (t.kind:Nat) t.n (.slice none 0 0))∧Below w.heap.size w w':=by
 have sz1:(w.alloc (.cells #[.string t.op,.string t.name,.int .i64 (t.kind:Nat),.int .i64 t.n,.int .i64 (t.pl:Nat),sl] 28)).heap.size=w.heap.size+1:=by simp
 have A1:=hid (show Below w.heap.size w ((w.alloc (.cells #[.string t.op,.string t.name,.int .i64 (t.kind:Nat),.int .i64 t.n,.int .i64 (t.pl:Nat),sl] 28)).alloc (.cells #[.int .i64 0,.int .i64 0,.slice none 0 0] 62)) from ((Below.refl _ _).alloc (Nat.le_refl _) _).alloc (by simp) _)
 have X1:=hid (show B6 ((w.alloc (.cells #[.string t.op,.string t.name,.int .i64 (t.kind:Nat),.int .i64 t.n,.int .i64 (t.pl:Nat),sl] 28)).alloc (.cells #[.int .i64 0,.int .i64 0,.slice none 0 0] 62)) w.heap.size (.string t.op) (.string t.name) (.int .i64 (t.kind:Nat)) (.int .i64 t.n) (.int .i64 (t.pl:Nat)) (sl) from by
  have h:=(B6.new w 28 (.string t.op) (.string t.name) (.int .i64 (t.kind:Nat)) (.int .i64 t.n) (.int .i64 (t.pl:Nat)) (sl)).next ((Below.refl _ _).alloc (Nat.le_refl _) (.cells #[.int .i64 0,.int .i64 0,.slice none 0 0] 62))
  exact h)
 have X2:=hid (show B3v ((w.alloc (.cells #[.string t.op,.string t.name,.int .i64 (t.kind:Nat),.int .i64 t.n,.int .i64 (t.pl:Nat),sl] 28)).alloc (.cells #[.int .i64 0,.int .i64 0,.slice none 0 0] 62)) (w.heap.size+1) (.int .i64 0) (.int .i64 0) (.slice none 0 0) from by
  have h:=B3v.new (w.alloc (.cells #[.string t.op,.string t.name,.int .i64 (t.kind:Nat),.int .i64 t.n,.int .i64 (t.pl:Nat),sl] 28)) 62 (.int .i64 0) (.int .i64 0) (.slice none 0 0)
  rw [sz1] at h
  exact h)
 clear sz1
 go_enter Tryd.func29,Tryd.ntmps29
 go_upto_region 1 with fail
 generalize World.alloc (World.alloc w _) _=w1 at *
 have hr:=hid (show w.heap.size≤w.heap.size+1 by omega)
 generalize w.heap.size+1=r at *
 obtain ⟨c0,c1,c2,c3,c4,c5,_⟩:=X1.out
 obtain ⟨y0,y1,y2,yz⟩:=X2.out
 have S:=hid (X2.out.sets (.int .i64 (t.kind:Nat)) (.int .i64 t.n) (.slice none 0 0))
 have BF:=hid (Below.put3v A1.out (q:=r) hr.out (.int .i64 (t.kind:Nat)) (.int .i64 t.n) (.slice none 0 0))
 go_wp2_with fail
 clear y0 y1 y2 yz
 generalize World.setCell _ ⟨r,2,none⟩ _=wf at *
 obtain ⟨f0,f1,f2,_⟩:=S.out
 try simp only [Exit.inBlock,Exit.then]
 exact bodyPost_ret (v:=vl (t.kind:Nat) t.n (.slice none 0 0)) (by simp [results,Tryd.results29,go_sem,f0,f1,f2]) rfl ⟨rfl,BF.out⟩
end Go.Proofs.YtbeahnehjannpaaDoor
