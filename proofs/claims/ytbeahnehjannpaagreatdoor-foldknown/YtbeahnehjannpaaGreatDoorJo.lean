/- Parts of the proof. -/
import Derived.Test.YtbeahnehjannpaaGreatDoorJm
import Derived.Test.YtbeahnehjannpaaGreatDoorJn
namespace Go.Proofs.YtbeahnehjannpaaGreatDoor
open Go.RowKit
set_option linter.unusedVariables false
set_option linter.unusedSimpArgs false
mutual
def sgF:Tr→Bool
 | .nd op nm kd n a ks=>(if eqB op ⟨#[115,116,97,116,117,116,101]⟩ then decide (ks.length≤100000) else if eqB op ⟨#[108,105,116]⟩ then (ks.length==0 && decide (0≤n) && ((kd==1 && decide (n≤1)) || ((kd==2 || kd==3) && decide (n<9223372036854775808)))) else (!(eqB op ⟨#[116,97,98,108,101]⟩) && okP (patF op ks.length) kd ks.length && decide (kd≤1000000))) && sgFL ks
def sgFL:List Tr→Bool
 | []=>true
 | t :: ts=>sgF t && sgFL ts
end
mutual
theorem sgF_of:∀ t:Tr,sgF t=true→∀ B,0<B→SC B t
 | .nd op nm kd n a ks,h,B,hB=>by
  rw [sgF,Bool.and_eq_true] at h
  have hk:=sgF_ofL ks h.2 B hB
  have h1:=h.1
  cases e:eqB op ⟨#[115,116,97,116,117,116,101]⟩ with
  | true =>
   rw [e,if_pos rfl] at h1
   obtain rfl:=eqB_eq e
   exact show_stat B nm kd n a ks hB (of_decide_eq_true h1) hk
  | false =>
   rw [e,if_neg (by decide)] at h1
   cases e2:eqB op ⟨#[108,105,116]⟩ with
   | true =>
    rw [e2,if_pos rfl] at h1
    obtain rfl:=eqB_eq e2
    simp only [Bool.and_eq_true,Bool.or_eq_true,beq_iff_eq,decide_eq_true_eq] at h1
    have k0:=List.eq_nil_of_length_eq_zero h1.1.1
    subst k0
    have hn:((n.toNat:Nat):Int)=n:=Int.toNat_of_nonneg h1.1.2
    have q:=show_lit B nm kd n.toNat a (by
     rcases h1.2 with h | h
     ·exact .inl ⟨h.1,by omega⟩
     ·rcases h.1 with k | k
      ·exact .inr (.inl ⟨k,by omega⟩)
      ·exact .inr (.inr ⟨k,by omega⟩))
    rw [hn] at q
    exact q
   | false =>
    rw [e2,if_neg (by decide)] at h1
    simp only [Bool.and_eq_true,Bool.not_eq_true'] at h1
    exact show_nd B op nm kd n a ks hB e e2 h1.1.1 h1.1.2 (of_decide_eq_true h1.2) hk
theorem sgF_ofL:∀ ts:List Tr,sgFL ts=true→∀ B,0<B→∀ t ∈ ts,SC B t
 | [],_,B,hB,t,ht=>by simp at ht
 | u :: us,h,B,hB,t,ht=>by
  rw [sgFL,Bool.and_eq_true] at h
  rcases List.mem_cons.1 ht with e | e
  ·rw [e];exact sgF_of u h.1 B hB
  ·exact sgF_ofL us h.2 B hB t e
end
def gdB (T:Tr):Bool:=T.kids.all fun d=>!(eqB d.op ⟨#[114,117,108,101]⟩) || d.kids.all gxB
theorem fold_tr {T:Tr} (hz:Sz T) (hg:gdB T=true):∀ (S:Nat→Prop) (w:World) (v:Value),TabU w→Nv w S v T→Calls Tryz.prog 8 #[v] w fun e w'=>FdP (fdS T) w e w':=by
 cases hz with
 | mk t h hk =>
  obtain ⟨op,nm,kd,n,pl,ts⟩:=T
  unfold gdB at hg
  rw [List.all_eq_true] at hg
  refine fold_any op nm kd n pl ts h (fun d hd=>?_)
  have hd1:=hg d hd
  have hd2:=hk d hd
  cases e:eqB d.op ⟨#[114,117,108,101]⟩ with
  | true =>
   rw [e] at hd1
   simp only [Bool.not_true,Bool.false_or,List.all_eq_true] at hd1
   cases hd2 with
   | mk _ h2 hk2 =>
    obtain ⟨op2,nm2,kd2,n2,pl2,ts2⟩:=d
    exact decl_rule op2 nm2 kd2 n2 pl2 ts2 e h2 (fun k hk=>(expr_any (gx_ok k (hd1 k hk))).1)
  | false =>
   obtain ⟨op2,nm2,kd2,n2,pl2,ts2⟩:=d
   exact decl_else op2 nm2 kd2 n2 pl2 ts2 e hd2
end Go.Proofs.YtbeahnehjannpaaGreatDoor
