/- Parts of the proof. -/
import Derived.Test.YtbeahnehjannpaaDoorJP
import Derived.Test.YtbeahnehjannpaaDoorJk
namespace Go.Proofs.YtbeahnehjannpaaDoor
open Go.RowKit
set_option linter.unusedVariables false
set_option linter.unusedSimpArgs false
theorem opF_of {op:ByteArray} {k n j m D R:Int} {Z:Bool} (hD:outF op k j=D) (h0:D≠0) (hz:(eqB op ⟨#[47]⟩ && m==0)=false) (hR:numF op k n j m=(R,Z)):opF op k n j m=if !Z || !wthF D R then (0,0,if D=5 then 12 else 10) else (D,R,0):=by
 unfold opF
 rw [hD,if_neg h0,if_neg (by rw [hz];simp),hR]
theorem wth2 (R:Int):wthF 2 R=(decide (-4503599627370496≤R) && decide (R≤4503599627370496)):=rfl
theorem opF_in {op:ByteArray} {k n j m R:Int} (hD:outF op k j=2) (hz:(eqB op ⟨#[47]⟩ && m==0)=false) (hR:numF op k n j m=(Nm.clip R,Nm.fit R)) (h1:-4503599627370496≤R) (h2:R≤4503599627370496):opF op k n j m=(2,R,0):=by
 have f:Nm.fit R=true:=Nm.fit_yes (by unfold Nm.M63;omega) (by unfold Nm.M63;omega)
 rw [opF_of hD (by decide) hz hR,Nm.clip_yes f,f,wth2,decide_eq_true h1,decide_eq_true h2]
 rfl
theorem opF_out {op:ByteArray} {k n j m R:Int} (hD:outF op k j=2) (hz:(eqB op ⟨#[47]⟩ && m==0)=false) (hR:numF op k n j m=(Nm.clip R,Nm.fit R)) (h2:4503599627370496<R):(opF op k n j m).2.2=10:=by
 rw [opF_of hD (by decide) hz hR]
 cases f:Nm.fit R with
 | false=>rfl
 | true =>
  rw [Nm.clip_yes f,wth2,decide_eq_false (show ¬ R≤4503599627370496 by omega)]
  simp
theorem stpQ {op nm:ByteArray} {kd:Nat} {n:Int} {pl:Nat} {X Y:Tr} (h:bin12 op=true) (q:ltB X=true) (r:ltB Y=true):stpE (.nd op nm kd n pl [X,Y])=reckE (.nd op nm kd n pl [X,Y]) X Y:=by
 show (if bin12 op=true then (if (ltB X && ltB Y)=true then _ else _) else _)=_
 rw [if_pos h,if_pos (by rw [q,r];rfl)]
theorem fd_bin (o:ByteArray) (hb:bin12 o=true) (a b p q:Nat):fdE (eS o a b p q)=reckE (eS o a b p q) (.nd ⟨#[108,105,116]⟩ ⟨#[]⟩ 2 (a:Nat) 15 []) (.nd ⟨#[108,105,116]⟩ ⟨#[]⟩ 2 (b:Nat) q []):=by
 unfold eS
 rw [fdE,fdL,fdL,fdL]
 rw [show fdE (.nd ⟨#[108,105,116]⟩ ⟨#[]⟩ 2 (a:Nat) 15 [])=.nd ⟨#[108,105,116]⟩ ⟨#[]⟩ 2 (a:Nat) 15 [] from by rw [fdE,fdL];rfl,show fdE (.nd ⟨#[108,105,116]⟩ ⟨#[]⟩ 2 (b:Nat) q [])=.nd ⟨#[108,105,116]⟩ ⟨#[]⟩ 2 (b:Nat) q [] from by rw [fdE,fdL];rfl]
 exact stpQ hb rfl rfl
theorem fd_yes {o:ByteArray} {a b p q:Nat} {R:Int} (hb:bin12 o=true) (h:opF o 2 (a:Nat) 2 (b:Nat)=(2,R,0)):fdE (eS o a b p q)=.nd ⟨#[108,105,116]⟩ ⟨#[]⟩ 2 R p []:=by
 rw [fd_bin o hb]
 unfold reckE
 have h2:opF (eS o a b p q).op (((Tr.nd ⟨#[108,105,116]⟩ ⟨#[]⟩ 2 (a:Nat) 15 []).kind:Nat):Int) (Tr.nd ⟨#[108,105,116]⟩ ⟨#[]⟩ 2 (a:Nat) 15 []).n (((Tr.nd ⟨#[108,105,116]⟩ ⟨#[]⟩ 2 (b:Nat) q []).kind:Nat):Int) (Tr.nd ⟨#[108,105,116]⟩ ⟨#[]⟩ 2 (b:Nat) q []).n=(2,R,0):=h
 rw [h2]
 rfl
theorem fd_no {o:ByteArray} {a b p q:Nat} (hb:bin12 o=true) (h:(opF o 2 (a:Nat) 2 (b:Nat)).2.2≠0):fdE (eS o a b p q)=eS o a b p q:=by
 rw [fd_bin o hb]
 unfold reckE
 exact if_neg h
theorem fd_add_yes {a b p q:Nat} (h:a+b≤4503599627370496):fdE (eS ⟨#[43]⟩ a b p q)=.nd ⟨#[108,105,116]⟩ ⟨#[]⟩ 2 ((a:Int)+(b:Int)) p [] :=
 fd_yes rfl (opF_in (by decide +kernel) rfl rfl (by omega) (by omega))
theorem fd_add_no {a b p q:Nat} (h:4503599627370496<a+b):fdE (eS ⟨#[43]⟩ a b p q)=eS ⟨#[43]⟩ a b p q :=
 fd_no rfl (by have h:=opF_out (op:=⟨#[43]⟩) (k:=2) (n:=(a:Nat)) (j:=2) (m:=(b:Nat)) (R:=(a:Int)+(b:Int)) (by decide +kernel) rfl rfl (by omega);rw [h];decide)
theorem fd_sub {a b p q:Nat} (ha:a≤4503599627370496) (hb:b≤4503599627370496):fdE (eS ⟨#[45]⟩ a b p q)=.nd ⟨#[108,105,116]⟩ ⟨#[]⟩ 2 ((a:Int) - (b:Int)) p [] :=
 fd_yes rfl (opF_in (by decide +kernel) rfl rfl (by omega) (by omega))
theorem fd_mul_yes {a b p q:Nat} (h:a*b≤4503599627370496):fdE (eS ⟨#[42]⟩ a b p q)=.nd ⟨#[108,105,116]⟩ ⟨#[]⟩ 2 ((a:Int)*(b:Int)) p [] :=
 fd_yes rfl (opF_in (by decide +kernel) rfl rfl (by have:((a*b:Nat):Int)=(a:Int)*(b:Int):=Int.natCast_mul a b;omega) (by have:((a*b:Nat):Int)=(a:Int)*(b:Int):=Int.natCast_mul a b;omega))
theorem fd_mul_no {a b p q:Nat} (h:4503599627370496<a*b):fdE (eS ⟨#[42]⟩ a b p q)=eS ⟨#[42]⟩ a b p q :=
 fd_no rfl (by have h:=opF_out (op:=⟨#[42]⟩) (k:=2) (n:=(a:Nat)) (j:=2) (m:=(b:Nat)) (R:=(a:Int)*(b:Int)) (by decide +kernel) rfl rfl (by have:((a*b:Nat):Int)=(a:Int)*(b:Int):=Int.natCast_mul a b;omega);rw [h];decide)
theorem fd_div_no {a p q:Nat}:fdE (eS ⟨#[47]⟩ a 0 p q)=eS ⟨#[47]⟩ a 0 p q :=
 fd_no rfl (by
  unfold opF
  rw [show outF ⟨#[47]⟩ 2 2=2 from by decide +kernel,if_neg (by decide),if_pos (show (eqB ⟨#[47]⟩ ⟨#[47]⟩ && (((0:Nat):Int)==0))=true from rfl)]
  decide)
theorem fd_div_yes {a b p q:Nat} (ha:a≤4503599627370496) (h:0<b):fdE (eS ⟨#[47]⟩ a b p q)=.nd ⟨#[108,105,116]⟩ ⟨#[]⟩ 2 (((a / b:Nat):Nat):Int) p []:=by
 have e:(a:Int).fdiv (b:Int)=((a / b:Nat):Int):=by
  rw [Int.fdiv_eq_ediv_of_nonneg _ (by omega)]
  rfl
 have l:=Nat.div_le_self a b
 generalize a / b=d at *
 refine fd_yes rfl (opF_in (by decide +kernel) ?_ (by rw [← e];rfl) (by omega) (by omega))
 have:((b:Int)==0)=false:=beqM _ _ (by omega)
 rw [this]
 rfl
theorem gx_eS {o:ByteArray} (hb:bin12 o=true) (hu:un2 o=false) {a b p q:Nat} (ha:a≤4503599627370496) (hb2:b≤4503599627370496):GX (eS o a b p q):=by
 refine .mk _ _ _ _ _ _ ⟨by decide,by decide⟩ ?_ fun k hk=>?_
 ·unfold shB
  rw [hu,hb]
  rfl
 ·simp only [List.mem_cons,List.not_mem_nil,or_false] at hk
  rcases hk with rfl | rfl
  ·exact .mk _ _ _ _ _ _ ⟨by omega,by omega⟩ (by decide +kernel) fun k hk=>by simp at hk
  ·exact .mk _ _ _ _ _ _ ⟨by omega,by omega⟩ (by decide +kernel) fun k hk=>by simp at hk
end Go.Proofs.YtbeahnehjannpaaDoor
