/- Parts of the proof. -/
import Derived.Test.YtbeahnehjannpaaDoorHi
import Derived.Test.YtbeahnehjannpaaDoorKU
import Derived.Laws.Rows
import Derived.BigQuiet
namespace Go.Proofs.YtbeahnehjannpaaDoor
open Go.RowKit
set_option linter.unusedVariables false
set_option linter.unusedSimpArgs false
def unitL:List (ByteArray × Int × Int × Int):=[(⟨#[43]⟩,2,2,2),(⟨#[43]⟩,3,3,3),(⟨#[43]⟩,4,4,4),(⟨#[43]⟩,5,2,5),(⟨#[45]⟩,2,2,2),(⟨#[45]⟩,3,3,3),(⟨#[45]⟩,4,4,4),(⟨#[45]⟩,5,2,5),(⟨#[45]⟩,5,5,2),(⟨#[42]⟩,2,2,2),(⟨#[42]⟩,3,2,3),(⟨#[42]⟩,4,2,4),(⟨#[42]⟩,4,3,3),(⟨#[47]⟩,2,2,2),(⟨#[47]⟩,3,2,3),(⟨#[47]⟩,3,3,4)]
def unitA:Array Value:=#[.string ⟨#[43]⟩,.int .i64 2,.int .i64 2,.int .i64 2,.string ⟨#[43]⟩,.int .i64 3,.int .i64 3,.int .i64 3,.string ⟨#[43]⟩,.int .i64 4,.int .i64 4,.int .i64 4,.string ⟨#[43]⟩,.int .i64 5,.int .i64 2,.int .i64 5,.string ⟨#[45]⟩,.int .i64 2,.int .i64 2,.int .i64 2,.string ⟨#[45]⟩,.int .i64 3,.int .i64 3,.int .i64 3,.string ⟨#[45]⟩,.int .i64 4,.int .i64 4,.int .i64 4,.string ⟨#[45]⟩,.int .i64 5,.int .i64 2,.int .i64 5,.string ⟨#[45]⟩,.int .i64 5,.int .i64 5,.int .i64 2,.string ⟨#[42]⟩,.int .i64 2,.int .i64 2,.int .i64 2,.string ⟨#[42]⟩,.int .i64 3,.int .i64 2,.int .i64 3,.string ⟨#[42]⟩,.int .i64 4,.int .i64 2,.int .i64 4,.string ⟨#[42]⟩,.int .i64 4,.int .i64 3,.int .i64 3,.string ⟨#[47]⟩,.int .i64 2,.int .i64 2,.int .i64 2,.string ⟨#[47]⟩,.int .i64 3,.int .i64 2,.int .i64 3,.string ⟨#[47]⟩,.int .i64 3,.int .i64 3,.int .i64 4]
def fndU:List (ByteArray × Int × Int × Int)→ByteArray→Int→Int→Int
 | [],_,_,_=>0
 | x :: l,op,a,b=>if eqB x.1 op=true∧x.2.1=a∧x.2.2.1=b then x.2.2.2 else fndU l op a b
def TabU (w:World):Prop:=0<w.heap.size∧∀ i,i<64→w.cell? ⟨0,i,none⟩=unitA[i]?
theorem TabU.keep {w w':World} (h:TabU w) (hs:w.heap.size≤w'.heap.size) (hb:w'.heap[0]?=w.heap[0]?):TabU w' :=
 ⟨by have:=h.1;omega,fun i hi=>(World.cell?_of_block (a:=⟨0,i,none⟩) hb).trans (h.2 i hi)⟩
theorem TabU.next {w w':World} (h:TabU w) (hb:Below w.heap.size w w'):TabU w':=h.keep hb.size (hb.block 0 h.1)
theorem unitInfo:(Tryd.prog.info? 98).map (·.size)=some 64:=by kernel_rfl
theorem run_unit {w:World} (hT:TabU w):(loadVar 98 ⟨0,0,none⟩).run Tryd.prog w=.ok (.agg unitA) w:=by
 have hl:(loadCells ⟨0,0,none⟩ unitA.toList.length).run Tryd.prog w=.ok unitA.toList.toArray w :=
  run_loadCells_list (P:=Tryd.prog) w ⟨0,0,none⟩ unitA.toList (fun j v hv=>by
   have hadd:(⟨0,0,none⟩:Addr).add j=⟨0,j,none⟩:=by unfold Addr.add;split <;> simp_all
   have hj:j<64:=(List.getElem?_eq_some_iff.1 hv).1
   rw [hadd,hT.2 j hj]
   simpa using hv)
 have hu:Tryd.prog.underlying 98=some _:=Tryd.underlying98
 cases hq:Tryd.prog.info? 98 with
 | none=>have:=unitInfo;rw [hq] at this;cases this
 | some i =>
  have hs:i.size=64:=by have:=unitInfo;rw [hq] at this;simpa using this
  have hagg:(isAgg 98).run Tryd.prog w=.ok true w:=by
   unfold isAgg
   rw [Sem.run_bind,run_underlying hu w]
   simp
  have hn:unitA.toList.length=64:=rfl
  rw [hn,Array.toArray_toList] at hl
  simp only [loadVar,Sem.run_bind,hagg,sizeOf,typeInfo,hq,hs,hl]
  simp [hq,hs,hl]
theorem wpList_unit {w:World} {ops:Array Oper} {rest:List Oper} {o:Oper} {a:Act} {Q:Exit→Act→World→Prop} (hgd:o.guard=none) (ho:o.op=.load 98 (.global 0)) (hT:TabU w)
  (h:wpList Tryd.prog ops Q rest (a.put o.dst (.agg unitA)) w):wpList Tryd.prog ops Q (o :: rest) a w:=by
 refine wpList_plain hgd fun _ hK=>?_
 have hr:=run_unit hT
 unfold Oper.wp execOp
 have hx:a.eval (.global 0)=.pointer (some ⟨0,0,none⟩):=rfl
 simp only [ho,hx,Instr.loadAt,Instr.sureAddr,Sem.run_bind,Sem.run_pure,Result.andThen_ok,hr]
 exact hK _ _ h
set_option maxRecDepth 100000 in
theorem idxu_0 (w:World):(Instr.index 98 (.agg unitA) (.int .i64 0)).run Tryd.prog w=.ok (.agg #[.string ⟨#[43]⟩,.int .i64 2,.int .i64 2,.int .i64 2]) w:=by kernel_rfl
set_option maxRecDepth 100000 in
theorem idxu_1 (w:World):(Instr.index 98 (.agg unitA) (.int .i64 1)).run Tryd.prog w=.ok (.agg #[.string ⟨#[43]⟩,.int .i64 3,.int .i64 3,.int .i64 3]) w:=by kernel_rfl
set_option maxRecDepth 100000 in
theorem idxu_2 (w:World):(Instr.index 98 (.agg unitA) (.int .i64 2)).run Tryd.prog w=.ok (.agg #[.string ⟨#[43]⟩,.int .i64 4,.int .i64 4,.int .i64 4]) w:=by kernel_rfl
set_option maxRecDepth 100000 in
theorem idxu_3 (w:World):(Instr.index 98 (.agg unitA) (.int .i64 3)).run Tryd.prog w=.ok (.agg #[.string ⟨#[43]⟩,.int .i64 5,.int .i64 2,.int .i64 5]) w:=by kernel_rfl
set_option maxRecDepth 100000 in
theorem idxu_4 (w:World):(Instr.index 98 (.agg unitA) (.int .i64 4)).run Tryd.prog w=.ok (.agg #[.string ⟨#[45]⟩,.int .i64 2,.int .i64 2,.int .i64 2]) w:=by kernel_rfl
set_option maxRecDepth 100000 in
theorem idxu_5 (w:World):(Instr.index 98 (.agg unitA) (.int .i64 5)).run Tryd.prog w=.ok (.agg #[.string ⟨#[45]⟩,.int .i64 3,.int .i64 3,.int .i64 3]) w:=by kernel_rfl
set_option maxRecDepth 100000 in
theorem idxu_6 (w:World):(Instr.index 98 (.agg unitA) (.int .i64 6)).run Tryd.prog w=.ok (.agg #[.string ⟨#[45]⟩,.int .i64 4,.int .i64 4,.int .i64 4]) w:=by kernel_rfl
set_option maxRecDepth 100000 in
theorem idxu_7 (w:World):(Instr.index 98 (.agg unitA) (.int .i64 7)).run Tryd.prog w=.ok (.agg #[.string ⟨#[45]⟩,.int .i64 5,.int .i64 2,.int .i64 5]) w:=by kernel_rfl
set_option maxRecDepth 100000 in
theorem idxu_8 (w:World):(Instr.index 98 (.agg unitA) (.int .i64 8)).run Tryd.prog w=.ok (.agg #[.string ⟨#[45]⟩,.int .i64 5,.int .i64 5,.int .i64 2]) w:=by kernel_rfl
set_option maxRecDepth 100000 in
theorem idxu_9 (w:World):(Instr.index 98 (.agg unitA) (.int .i64 9)).run Tryd.prog w=.ok (.agg #[.string ⟨#[42]⟩,.int .i64 2,.int .i64 2,.int .i64 2]) w:=by kernel_rfl
set_option maxRecDepth 100000 in
theorem idxu_10 (w:World):(Instr.index 98 (.agg unitA) (.int .i64 10)).run Tryd.prog w=.ok (.agg #[.string ⟨#[42]⟩,.int .i64 3,.int .i64 2,.int .i64 3]) w:=by kernel_rfl
set_option maxRecDepth 100000 in
theorem idxu_11 (w:World):(Instr.index 98 (.agg unitA) (.int .i64 11)).run Tryd.prog w=.ok (.agg #[.string ⟨#[42]⟩,.int .i64 4,.int .i64 2,.int .i64 4]) w:=by kernel_rfl
set_option maxRecDepth 100000 in
theorem idxu_12 (w:World):(Instr.index 98 (.agg unitA) (.int .i64 12)).run Tryd.prog w=.ok (.agg #[.string ⟨#[42]⟩,.int .i64 4,.int .i64 3,.int .i64 3]) w:=by kernel_rfl
set_option maxRecDepth 100000 in
theorem idxu_13 (w:World):(Instr.index 98 (.agg unitA) (.int .i64 13)).run Tryd.prog w=.ok (.agg #[.string ⟨#[47]⟩,.int .i64 2,.int .i64 2,.int .i64 2]) w:=by kernel_rfl
set_option maxRecDepth 100000 in
theorem idxu_14 (w:World):(Instr.index 98 (.agg unitA) (.int .i64 14)).run Tryd.prog w=.ok (.agg #[.string ⟨#[47]⟩,.int .i64 3,.int .i64 2,.int .i64 3]) w:=by kernel_rfl
set_option maxRecDepth 100000 in
theorem idxu_15 (w:World):(Instr.index 98 (.agg unitA) (.int .i64 15)).run Tryd.prog w=.ok (.agg #[.string ⟨#[47]⟩,.int .i64 3,.int .i64 3,.int .i64 4]) w:=by kernel_rfl
theorem idx_unit:∀ (i:Nat) (x:ByteArray × Int × Int × Int),unitL[i]?=some x→∀ w,(Instr.index 98 (.agg unitA) (.int .i64 (i:Nat))).run Tryd.prog w=.ok (.agg #[.string x.1,.int .i64 x.2.1,.int .i64 x.2.2.1,.int .i64 x.2.2.2]) w:=by
 intro i x h w
 match i,h with
 | 0,h=>cases (Option.some.inj h);exact idxu_0 w
 | 1,h=>cases (Option.some.inj h);exact idxu_1 w
 | 2,h=>cases (Option.some.inj h);exact idxu_2 w
 | 3,h=>cases (Option.some.inj h);exact idxu_3 w
 | 4,h=>cases (Option.some.inj h);exact idxu_4 w
 | 5,h=>cases (Option.some.inj h);exact idxu_5 w
 | 6,h=>cases (Option.some.inj h);exact idxu_6 w
 | 7,h=>cases (Option.some.inj h);exact idxu_7 w
 | 8,h=>cases (Option.some.inj h);exact idxu_8 w
 | 9,h=>cases (Option.some.inj h);exact idxu_9 w
 | 10,h=>cases (Option.some.inj h);exact idxu_10 w
 | 11,h=>cases (Option.some.inj h);exact idxu_11 w
 | 12,h=>cases (Option.some.inj h);exact idxu_12 w
 | 13,h=>cases (Option.some.inj h);exact idxu_13 w
 | 14,h=>cases (Option.some.inj h);exact idxu_14 w
 | 15,h=>cases (Option.some.inj h);exact idxu_15 w
 | i+16,h=>simp [unitL] at h
def rnkM (a:Int):Bool:=decide (2≤a∧a≤5)
theorem beqM (a b:Int) (h:a≠b):(a==b)=false:=by simpa using h
theorem rankedM_any (a:Int) (w:World):Calls Tryd.prog 63 #[.int .i64 a] w fun e w'=>e=.returned (.bool (rnkM a))∧w=w':=by
 by_cases h2:a=2
 ·subst h2
  show Calls _ _ _ _ fun e w'=>e=.returned (.bool true)∧w=w'
  go_enter Tryd.func63,Tryd.ntmps63
  go_wp2
  go_returns
  exact ⟨rfl,rfl⟩
 by_cases h3:a=3
 ·subst h3
  show Calls _ _ _ _ fun e w'=>e=.returned (.bool true)∧w=w'
  go_enter Tryd.func63,Tryd.ntmps63
  go_wp2
  go_returns
  exact ⟨rfl,rfl⟩
 by_cases h4:a=4
 ·subst h4
  show Calls _ _ _ _ fun e w'=>e=.returned (.bool true)∧w=w'
  go_enter Tryd.func63,Tryd.ntmps63
  go_wp2
  go_returns
  exact ⟨rfl,rfl⟩
 by_cases h5:a=5
 ·subst h5
  show Calls _ _ _ _ fun e w'=>e=.returned (.bool true)∧w=w'
  go_enter Tryd.func63,Tryd.ntmps63
  go_wp2
  go_returns
  exact ⟨rfl,rfl⟩
 rw [show rnkM a=false from by unfold rnkM;simp;omega]
 have e2:=beqM _ _ h2
 have e3:=beqM _ _ h3
 have e4:=beqM _ _ h4
 have e5:=beqM _ _ h5
 clear h2 h3 h4 h5
 go_enter Tryd.func63,Tryd.ntmps63
 go_wp2
 go_returns
 exact ⟨rfl,rfl⟩
def outF (op:ByteArray) (a b:Int):Int :=
 if eqB op ⟨#[42]⟩ then fndU unitL op (max a b) (min a b)
 else if eqB op ⟨#[43]⟩ || eqB op ⟨#[45]⟩ || eqB op ⟨#[47]⟩ then fndU unitL op a b
 else if eqB op ⟨#[110,101,103]⟩ then (if rnkM a && !(a==5) then a else 0)
 else if eqB op ⟨#[110,111,116]⟩ then (if a==1 then 1 else 0)
 else if eqB op ⟨#[97,110,100]⟩ || eqB op ⟨#[111,114]⟩ then (if a==1 && b==1 then 1 else 0)
 else if eqB op ⟨#[61,61]⟩ || eqB op ⟨#[33,61]⟩ then (if a==b && (rnkM a || a==1) then 1 else 0)
 else if eqB op ⟨#[60]⟩ || eqB op ⟨#[60,61]⟩ || eqB op ⟨#[62]⟩ || eqB op ⟨#[62,61]⟩ then (if a==b && rnkM a then 1 else 0)
 else if eqB op ⟨#[109,105,110]⟩ || eqB op ⟨#[109,97,120]⟩ then (if a==b && rnkM a then a else 0)
 else 0
def proF (k n j m:Int):Int × Bool:=if !(k==j) && !(k==2) && !(j==2) then (Nm.clip (n*m / 1000000),Nm.fit (n*m / 1000000)) else (Nm.clip (n*m),Nm.fit (n*m))
def quoF (k n j m:Int):Int × Bool :=
 if j==2 then (Nm.clip (n.fdiv m),Nm.fit (n.fdiv m)) else if m<0 then (Nm.clip (n*(-1000000) / (-m)),Nm.fit (n*(-1000000) / (-m))) else (Nm.clip (n*1000000 / m),Nm.fit (n*1000000 / m))
def hldF (op:ByteArray) (a b:Int):Bool :=
 if eqB op ⟨#[60]⟩ then decide (a<b) else if eqB op ⟨#[60,61]⟩ then decide (a≤b) else if eqB op ⟨#[62]⟩ then decide (a > b) else if eqB op ⟨#[62,61]⟩ then decide (a ≥ b)
 else if eqB op ⟨#[61,61]⟩ then a==b else if eqB op ⟨#[33,61]⟩ then a != b else a != 1
def numF (op:ByteArray) (k n j m:Int):Int × Bool :=
 if eqB op ⟨#[43]⟩ then (Nm.clip (n+m),Nm.fit (n+m)) else if eqB op ⟨#[45]⟩ then (Nm.clip (n - m),Nm.fit (n - m))
 else if eqB op ⟨#[42]⟩ then proF k n j m else if eqB op ⟨#[47]⟩ then quoF k n j m else if eqB op ⟨#[110,101,103]⟩ then (Nm.clip (0 - n),Nm.fit (0 - n))
 else if eqB op ⟨#[109,105,110]⟩ then (min n m,true) else if eqB op ⟨#[109,97,120]⟩ then (max n m,true)
 else if eqB op ⟨#[97,110,100]⟩ || eqB op ⟨#[111,114]⟩ then ((if (n==1)==eqB op ⟨#[111,114]⟩ then n else m),true)
 else ((if hldF op n m then 1 else 0),true)
def wthF (k n:Int):Bool :=
 if k==1 then n==0 || n==1 else if k==2 || k==3 then decide (-4503599627370496≤n) && decide (n≤4503599627370496)
 else if k==4 then decide (-1000000000000≤n) && decide (n≤1000000000000) else if k==5 then decide (0≤n) && decide (n≤109572) else false
def opF (op:ByteArray) (k n j m:Int):Int × Int × Int :=
 if outF op k j=0 then (0,0,8) else if eqB op ⟨#[47]⟩ && m==0 then (0,0,11)
 else if !(numF op k n j m).2 || !wthF (outF op k j) (numF op k n j m).1 then (0,0,if outF op k j=5 then 12 else 10)
 else (outF op k j,(numF op k n j m).1,0)
end Go.Proofs.YtbeahnehjannpaaDoor
