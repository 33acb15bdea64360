/- Put, Drop and Find of a tree. The collector: its box, ends, full. Drop and Find of a tree. -/
import Derived.Test.YthdjghmipepppaaMv
import Derived.Test.YthdjghmipepppaaMw
import Derived.Test.YthdjghmipepppaaMx
import Derived.BigQuiet
namespace Go.Proofs.Ythdjghmipepppaa
open Go.RowKit Go.Shelf
set_option linter.unusedVariables false
set_option linter.unusedSimpArgs false
attribute [local go_sem] Oper.semAt_some

set_option maxRecDepth 100000 in
set_option maxHeartbeats 8000000 in
theorem putTree (P : Nat) (sl : Value) (vs : List V4) (sh : List Pg) (ill n root r : Nat) (k v : ByteArray) (L : List It) (f : Nat) (w : World) (h : Shf w P sl vs sh ill n) (hn : n ≤ 700000000) (hi : ill ≤ 1000000000) (wl : ill = 0 ∨ n < ill) (rt : Rt sh root L r f) (hk : 1 ≤ k.size ∧ k.size ≤ 40) (hv : v.size ≤ 400) (hL : L.length ≤ 125) (hs : sh.length ≤ 700000) (hr : r ≤ 20) :
    Calls Try.prog 10 #[ifP P, .int .u64 (root : Nat), .string k, .string v] w fun e w' => ChP w w' P sl sh ill n (putC r sh root k v) 0 e := by
  have H : Hid _ := h
  have WL : Hid _ := wl
  have RT : Hid _ := rt
  have HS : Hid _ := hs
  have HL : Hid _ := hL
  have HR : Hid _ := hr
  have HK : Hid _ := hk
  have HV : Hid _ := hv
  have c1 : decide ((k.size : Int) < 1) = false := by rw [decide_eq_false_iff_not]; omega
  have c2 : decide ((40 : Int) < (k.size : Int)) = false := by rw [decide_eq_false_iff_not]; omega
  have c3 : decide ((400 : Int) < (v.size : Int)) = false := by rw [decide_eq_false_iff_not]; omega
  unfold ifP putC
  by_cases c0 : root = 0
  · rw [if_pos c0]
    subst c0
    have PF : Hid _ := new_pre hk hv sh hs
    have K1 : Hid _ := fun W => Put_leaf (.agg #[.bool true, .slice none 0 0, .slice none 0 0, .slice none 0 0]) ⟨true, [], [], []⟩ k v W (Pv.mk' (Sl.empty _) (Sl.empty _) (Sl.empty _) (fun x hx => by cases hx)) (fit_of good_none (by simp) (fun _ => by rw [encP_leaf_len, hd2 (by simp)]; simp [szs, sumL]) (fun x hx => by cases hx)) (leaf_keys good_none).1 rfl
    have K2 : Hid _ := fun W lv (S : Shf W P sl vs sh ill n) (hp : Pv W lv _) => climb_uadded P sl vs sh ill n 0 (.slice none 0 0) [] [] lv (putP ⟨true, [], [], []⟩ k v) W S (by omega) hi wl (Stp.nil W 0) (fun b hb => by simp [Value.ownBlock] at hb) hp PF.out.1 PF.out.2.1 (by omega) (fun st hst => by cases hst) PF.out.2.2.1 (by simp) PF.out.2.2.2
    unfold ifP at K2
    clear h wl rt hk hv hL hs hr PF
    go_enter Try.func10, Try.ntmps10
    go_wp2_with fail
    refine Calls.mono (K1.out _) ?_
    rintro e w1 ⟨⟨lv, rfl, pl⟩, b1⟩
    have B1 : Hid _ := b1
    have K3 : Hid _ := K2.out w1 lv (H.out.below b1) pl
    clear pl b1 K1 K2
    go_wp2_with fail
    refine Calls.mono K3.out ?_
    rintro e w2 C
    have C2 : Hid _ := C.ch (Gw.of_below B1.out P none) (Nat.le_refl _) (by omega)
    have C3 : Hid (∃ x y, e = .returned (.tuple #[.int .u64 (x : Nat), .int .i64 y])) := by
      rcases C2.out with ⟨n', q, _⟩ | ⟨t, q, _⟩
      · exact ⟨_, _, q⟩
      · exact ⟨0, _, q⟩
    clear C K3
    obtain ⟨x, y, rfl⟩ := C3.out
    go_wp2_with fail
    go_ret2
    exact C2.out
  · rw [if_neg c0]
    have tr := rt.some c0
    have TR : Hid _ := tr
    have PF : Hid _ := put_pre tr hk hv hL hs hr
    have K0 : Hid _ := descend_any P sl vs sh ill n root r k L f w h (by omega) hi wl tr (by omega) (by omega) hr
    have c4 : decide ((root : Int) = 0) = false := by rw [decide_eq_false_iff_not]; omega
    unfold ifP at K0
    clear h wl rt hk hv hL hs hr tr
    go_enter Try.func10, Try.ntmps10
    go_wp2_with fail
    refine Calls.mono K0.out ?_
    rintro e w1 D
    rcases D with ⟨sv, sts, y, rfl, ST, hy, PV, S1, G1, W1⟩ | ⟨rfl, S1, G1, iz⟩
    · have D : Hid (Stp w1 w.heap.size sv sts (wayF r sh root k).1 ∧ Pv w1 y.agg (wayF r sh root k).2 ∧ Shf w1 P sl vs sh ill (n + (wayF r sh root k).1.length + 1) ∧ Gw w w1 P none ∧ (ill = 0 ∨ n + (wayF r sh root k).1.length + 1 < ill)) := ⟨ST, PV, S1, G1, W1⟩
      clear ST PV S1 G1 W1 hy K0
      obtain ⟨lf, ka, kn, kc, va, vn, vc, ia, im, ic⟩ := y
      dsimp only [V4.agg] at D ⊢
      have box := Bq.new w1 (.bool lf) (.slice ka kn kc) (.slice va vn vc) (.slice ia im ic) 54
      obtain ⟨y0, y1, y2, y3⟩ := box.b4
      clear box
      have B2 : Hid _ := allocB w1 (.cells #[.bool lf, .slice ka kn kc, .slice va vn vc, .slice ia im ic] 54)
      go_upto_region 8 with fail
      generalize (w1.alloc (.cells #[.bool lf, .slice ka kn kc, .slice va vn vc, .slice ia im ic] 54)) = w2 at *
      have K1 : Hid _ := Put_leaf _ _ k v w2 (D.out.2.1.below B2.out) PF.out.2.2.1 (leaf_keys PF.out.2.1).1 PF.out.1
      go_wp2_with fail
      refine Calls.mono K1.out ?_
      rintro e w3 ⟨⟨lv, rfl, pl⟩, b1⟩
      have B3 : Hid _ := nextB B2.out b1
      have S3 : Hid _ := D.out.2.2.1.below B3.out
      have K3 : Hid _ := climb_uadded P sl vs sh ill _ w.heap.size sv sts _ lv (putP (wayF r sh root k).2 k v) w3 S3.out (by have := PF.out.2.2.2.2.2.2.2.1; have := HR.out; omega) hi D.out.2.2.2.2 (D.out.1.below B3.out) (Stp.off D.out.1 H.out) pl PF.out.2.2.2.1 PF.out.2.2.2.2.1 (by have := HS.out; omega) PF.out.2.2.2.2.2.1 PF.out.2.2.2.2.2.2.1 (by have := PF.out.2.2.2.2.2.2.2.1; have := HR.out; omega) PF.out.2.2.2.2.2.2.2.2
      unfold ifP at K3
      clear pl b1 K1 y0 y1 y2 y3
      go_wp2_with fail
      refine Calls.mono K3.out ?_
      rintro e w4 C
      have C2 : Hid (ChP w w4 P sl sh ill n (rootR (putQ r sh root k v)) 0 e) := C.ch (D.out.2.2.2.1.next B3.out) (by omega) (by have := PF.out.2.2.2.2.2.2.2.1; have := HR.out; omega)
      have C3 : Hid (∃ x y, e = .returned (.tuple #[.int .u64 (x : Nat), .int .i64 y])) := by
        rcases C2.out with ⟨n', q, _⟩ | ⟨t, q, _⟩
        · exact ⟨_, _, q⟩
        · exact ⟨0, _, q⟩
      clear C K3
      obtain ⟨x, y, rfl⟩ := C3.out
      go_wp2_with fail
      go_ret2
      exact C2.out
    · have G2 : Hid _ := S1
      have G3 : Hid _ := G1
      clear S1 G1 K0
      unfold zeroV
      go_wp2_with fail
      go_ret2
      exact Or.inr ⟨[], rfl, by rw [List.append_nil]; exact AddP.next (AddP.of G2.out G3.out) (allocB _ _), iz⟩

end Go.Proofs.Ythdjghmipepppaa

namespace Go.Proofs.Ythdjghmipepppaa
open Go.RowKit Go.Shelf
set_option linter.unusedVariables false
set_option linter.unusedSimpArgs false
attribute [local go_sem] Oper.semAt_some

def itC (x : It) : List Value := [.string x.1, .string x.2]
def cI (l : List It) : List Value := l.flatMap itC
theorem cI_app (a b : List It) : cI (a ++ b) = cI a ++ cI b := by unfold cI; rw [List.flatMap_append]
structure Col (w : World) (C P rd : Nat) (a b : ByteArray) (m : Int) (v : Value) (acc : List It) : Prop where
  rdr : Rdr w C P rd
  c2 : w.cell? ⟨C, 2, none⟩ = some (.string a)
  c3 : w.cell? ⟨C, 3, none⟩ = some (.string b)
  c4 : w.cell? ⟨C, 4, none⟩ = some (.int .i64 m)
  c5 : w.cell? ⟨C, 5, none⟩ = some v
  own : w.ownsRow (C + 1) 61 2 v acc.length (cI acc)
theorem Col.sl {w : World} {C P rd : Nat} {a b : ByteArray} {m : Int} {v : Value} {acc : List It} (h : Col w C P rd a b m v acc) : ∃ x c, v = .slice x acc.length c := by
  rcases h.own.2 with ⟨h0, h1⟩ | ⟨g, cap, cur, hv, _⟩
  · exact ⟨none, 0, by rw [h0, h1]⟩
  · exact ⟨_, _, hv⟩
theorem Col.kept {w w' : World} {C P rd : Nat} {a b : ByteArray} {m : Int} {v : Value} {acc : List It} (h : Col w C P rd a b m v acc) (k : w'.heap[C]? = w.heap[C]?) (ko : ∀ g, v.ownBlock = some g → w'.heap[g]? = w.heap[g]?) : Col w' C P rd a b m v acc := by
  have kc : ∀ i, w'.cell? ⟨C, i, none⟩ = w.cell? ⟨C, i, none⟩ := fun i => World.cell?_of_block (w := w) (a := ⟨C, i, none⟩) k
  refine ⟨h.rdr.kept k, (kc 2).trans h.c2, (kc 3).trans h.c3, (kc 4).trans h.c4, (kc 5).trans h.c5, ⟨h.own.1, ?_⟩⟩
  rcases h.own.2 with hn | ⟨g, cap, cur, hv, hb, hg, rest⟩
  · exact .inl hn
  · exact .inr ⟨g, cap, cur, hv, hb, by rw [ko g (by rw [hv]; rfl)]; exact hg, rest⟩
theorem Col.below {w w' : World} {C P rd : Nat} {a b : ByteArray} {m : Int} {v : Value} {acc : List It} (h : Col w C P rd a b m v acc) (bl : Below w.heap.size w w') : Col w' C P rd a b m v acc :=
  h.kept (bl.block C h.rdr.lt) (fun g hg => bl.block g (h.own.lt g hg).2)

theorem empty_is (b : ByteArray) : b.toList.isEmpty = decide (b = ByteArray.empty) := by
  rw [Lib.toList_data]
  rcases b with ⟨⟨l⟩⟩
  cases l with
  | nil => simp; rfl
  | cons x l => symm; simp [decide_eq_false_iff_not]; intro q; exact absurd (congrArg (fun b : ByteArray => b.data.size) q) (by show ¬ (l.length + 1 = 0); omega)
theorem ends_is (b key : ByteArray) : (!b.toList.isEmpty && !Op.bytesLess key.toList b.toList) = endsB b key := by
  unfold endsB
  rw [empty_is, ltS_leS]
  rfl
set_option maxRecDepth 100000 in
set_option maxHeartbeats 2000000 in
theorem ends_any (C P rd : Nat) (a b : ByteArray) (m : Int) (v : Value) (acc : List It) (key : ByteArray) (w : World) (h : Col w C P rd a b m v acc) :
    Calls Try.prog 71 #[.pointer (some ⟨C, 0, none⟩), .string key] w fun e w' => e = .returned (.bool (endsB b key)) ∧ Below w.heap.size w w' := by
  have c3 := h.c3
  clear h
  have E0 : Hid _ := ends_is b key
  generalize endsB b key = z at *
  go_enter Try.func71, Try.ntmps71
  go_wp2_with fail
  · rename_i q
    go_ret
    rw [← E0.out, q]
    exact ⟨rfl, Below.refl _ _⟩
  · go_ret
    rw [← E0.out]
    exact ⟨rfl, Below.refl _ _⟩
set_option maxRecDepth 100000 in
set_option maxHeartbeats 2000000 in
theorem full_any (C P rd : Nat) (a b : ByteArray) (m : Int) (v : Value) (acc : List It) (w : World) (h : Col w C P rd a b m v acc) :
    Calls Try.prog 37 #[.pointer (some ⟨C, 0, none⟩)] w fun e w' => e = .returned (.bool (decide (m ≤ (acc.length : Nat)))) ∧ Below w.heap.size w w' := by
  have c4 := h.c4
  have c5 := h.c5
  obtain ⟨x, c, rfl⟩ := h.sl
  clear h
  go_enter Try.func37, Try.ntmps37
  go_wp2_with fail
  go_quiet (fail)
  go_wp2_with fail
  go_ret
  exact ⟨rfl, drewB _ _⟩

end Go.Proofs.Ythdjghmipepppaa

namespace Go.Proofs.Ythdjghmipepppaa
open Go.RowKit Go.Shelf
set_option linter.unusedVariables false
set_option linter.unusedSimpArgs false
attribute [local go_sem] Oper.semAt_some

set_option maxRecDepth 100000 in
set_option maxHeartbeats 8000000 in
theorem dropTree (P : Nat) (sl : Value) (vs : List V4) (sh : List Pg) (ill n root r : Nat) (k : ByteArray) (L : List It) (f : Nat) (w : World) (h : Shf w P sl vs sh ill n) (hn : n ≤ 700000000) (hi : ill ≤ 1000000000) (wl : ill = 0 ∨ n < ill) (rt : Rt sh root L r f) (hk : 1 ≤ k.size ∧ k.size ≤ 40) (hL : L.length ≤ 125) (hs : sh.length ≤ 700000) (hr : r ≤ 20) :
    Calls Try.prog 11 #[ifP P, .int .u64 (root : Nat), .string k] w fun e w' => ((∃ x ∈ L, x.1 = k) → ChP w w' P sl sh ill n (dropT r sh root k) 0 e) ∧ ((¬ ∃ x ∈ L, x.1 = k) → ChP w w' P sl sh ill n (sh, 0) 5 e) := by
  have H : Hid _ := h
  have WL : Hid _ := wl
  have HS : Hid _ := hs
  have HR : Hid _ := hr
  unfold ifP
  by_cases c0 : root = 0
  · subst c0
    have NL : Hid _ := rt.none rfl
    clear h wl rt hk hL hs hr
    go_enter Try.func11, Try.ntmps11
    go_wp2_with fail
    go_ret2
    rw [NL.out]
    refine ⟨fun q => ?_, fun _ => Or.inl ⟨n, rfl, AddP.of H.out (Gw.refl _ _ _), Nat.le_refl _, by omega, WL.out⟩⟩
    obtain ⟨x, hx, _⟩ := q
    cases hx
  · have tr := rt.some c0
    have TR : Hid _ := tr
    have PF : Hid _ := put_pre (v := ByteArray.empty) tr hk (by decide) hL hs hr
    have DF : Hid _ := fun hx => drop_pre (k := k) tr hx hL hs hr
    have K0 : Hid _ := descend_any P sl vs sh ill n root r k L f w h (by omega) hi wl tr (by omega) (by omega) hr
    have c4 : decide ((root : Int) = 0) = false := by rw [decide_eq_false_iff_not]; omega
    unfold ifP at K0
    clear h wl rt hk hL hs hr tr
    go_enter Try.func11, Try.ntmps11
    go_wp2_with fail
    refine Calls.mono K0.out ?_
    rintro e w1 D
    rcases D with ⟨sv, sts, y, rfl, ST, hy, PV, S1, G1, W1⟩ | ⟨rfl, S1, G1, iz⟩
    · have D : Hid (Stp w1 w.heap.size sv sts (wayF r sh root k).1 ∧ Pv w1 y.agg (wayF r sh root k).2 ∧ Shf w1 P sl vs sh ill (n + (wayF r sh root k).1.length + 1) ∧ Gw w w1 P none ∧ (ill = 0 ∨ n + (wayF r sh root k).1.length + 1 < ill)) := ⟨ST, PV, S1, G1, W1⟩
      clear ST PV S1 G1 W1 hy K0
      obtain ⟨lf, ka, kn, kc, va, vn, vc, ia, im, ic⟩ := y
      dsimp only [V4.agg] at D ⊢
      have box := Bq.new w1 (.bool lf) (.slice ka kn kc) (.slice va vn vc) (.slice ia im ic) 54
      have BX : Hid _ := box
      obtain ⟨y0, y1, y2, y3⟩ := box.b4
      clear box
      have B2 : Hid _ := allocB w1 (.cells #[.bool lf, .slice ka kn kc, .slice va vn vc, .slice ia im ic] 54)
      go_upto_region 6 with fail
      generalize (w1.alloc (.cells #[.bool lf, .slice ka kn kc, .slice va vn vc, .slice ia im ic] 54)) = w2 at *
      have K1 : Hid _ := Find_leaf _ _ k w2 (D.out.2.1.below B2.out) PF.out.2.2.1.bd (leaf_keys PF.out.2.1).1 PF.out.1
      go_wp2_with fail
      refine Calls.mono K1.out ?_
      rintro e w3 ⟨rfl, b1⟩
      have B3 : Hid _ := nextB B2.out b1
      have BX3 : Hid _ := BX.out.below b1
      clear y0 y1 y2 y3 K1 b1
      have FD : Hid _ := way_in (k := k) TR.out
      cases fd : fnd (wayF r sh root k).2.keys k with
      | false =>
        have NI : Hid (¬ ∃ x ∈ L, x.1 = k) := fun q => by have := FD.out.2 q; rw [fd] at this; cases this
        go_wp2_with fail
        go_ret2
        exact ⟨fun q => absurd q NI.out, fun _ => Or.inl ⟨_, rfl, AddP.next (AddP.of D.out.2.2.1 D.out.2.2.2.1) B3.out, by omega, by have := PF.out.2.2.2.2.2.2.2.1; have := HR.out; omega, D.out.2.2.2.2⟩⟩
      | true =>
        have HX : Hid (∃ x ∈ L, x.1 = k) := FD.out.1 fd
        have DP : Hid _ := DF.out HX.out
        obtain ⟨y0, y1, y2, y3⟩ := BX3.out.b4
        have K1 : Hid _ := Drop_leaf _ _ k w3 (D.out.2.1.below B3.out) PF.out.2.2.1 (leaf_keys PF.out.2.1).1 PF.out.1
        clear fd FD
        go_wp2_with fail
        refine Calls.mono K1.out ?_
        rintro e w4 ⟨⟨lv, rfl, pl⟩, b1⟩
        have B4 : Hid _ := nextB B3.out b1
        have S4 : Hid _ := D.out.2.2.1.below B4.out
        have K3 : Hid _ := climb_uleft P sl vs sh ill _ w.heap.size sv sts _ lv (dropP (wayF r sh root k).2 k) w4 S4.out (by have := PF.out.2.2.2.2.2.2.2.1; have := HR.out; omega) hi D.out.2.2.2.2 (D.out.1.below B4.out) (Stp.off D.out.1 H.out) pl DP.out.1 DP.out.2.1 (by have := HS.out; omega) DP.out.2.2.1 DP.out.2.2.2.1 (by have := PF.out.2.2.2.2.2.2.2.1; have := HR.out; omega) DP.out.2.2.2.2.2
        unfold ifP at K3
        clear pl b1 K1 y0 y1 y2 y3
        go_wp2_with fail
        refine Calls.mono K3.out ?_
        rintro e w5 C
        have C2 : Hid (ChP w w5 P sl sh ill n (dropT r sh root k) 0 e) := C.ch (D.out.2.2.2.1.next B4.out) (by omega) (by have := PF.out.2.2.2.2.2.2.2.1; have := HR.out; omega)
        have C3 : Hid (∃ x y, e = .returned (.tuple #[.int .u64 (x : Nat), .int .i64 y])) := by
          rcases C2.out with ⟨n', q, _⟩ | ⟨t, q, _⟩
          · exact ⟨_, _, q⟩
          · exact ⟨0, _, q⟩
        clear C K3
        obtain ⟨x, y, rfl⟩ := C3.out
        go_wp2_with fail
        go_ret2
        exact ⟨fun _ => C2.out, fun q => absurd HX.out q⟩
    · have G2 : Hid _ := S1
      have G3 : Hid _ := G1
      clear S1 G1 K0
      unfold zeroV
      go_wp2_with fail
      go_ret2
      exact ⟨fun _ => Or.inr ⟨[], rfl, by rw [List.append_nil]; exact AddP.next (AddP.of G2.out G3.out) (allocB _ _), iz⟩, fun _ => Or.inr ⟨[], rfl, by rw [List.append_nil]; exact AddP.next (AddP.of G2.out G3.out) (allocB _ _), iz⟩⟩

/-- What finding answers (no error of the shelf). -/
def FiP (w w' : World) (P : Nat) (sl : Value) (vs : List V4) (sh : List Pg) (n : Nat) (o : Option ByteArray) (e : Ending) : Prop :=
  ∃ n', e = .returned (.tuple #[.string (o.getD ByteArray.empty), .int .i64 (if o.isSome then 0 else 5)]) ∧ Shf w' P sl vs sh 0 n' ∧ Gw w w' P none ∧ n ≤ n' ∧ n' ≤ n + 100
set_option maxRecDepth 100000 in
set_option maxHeartbeats 8000000 in
theorem findTree (P : Nat) (sl : Value) (vs : List V4) (sh : List Pg) (n root r : Nat) (k : ByteArray) (L : List It) (f : Nat) (w : World) (h : Shf w P sl vs sh 0 n) (hn : n ≤ 700000000) (rt : Rt sh root L r f) (hk : 1 ≤ k.size ∧ k.size ≤ 40) (hL : L.length ≤ 125) (hs : sh.length ≤ 700000) (hr : r ≤ 20) :
    Calls Try.prog 14 #[ifP P, .int .u64 (root : Nat), .string k] w fun e w' => FiP w w' P sl vs sh n (getL L k) e := by
  have H : Hid _ := h
  have HS : Hid _ := hs
  have HR : Hid _ := hr
  unfold ifP
  by_cases c0 : root = 0
  · subst c0
    have NL : Hid _ := rt.none rfl
    clear h rt hk hL hs hr
    go_enter Try.func14, Try.ntmps14
    go_wp2_with fail
    go_ret2
    rw [NL.out]
    exact ⟨n, rfl, H.out, Gw.refl _ _ _, Nat.le_refl _, by omega⟩
  · have tr := rt.some c0
    have TR : Hid _ := tr
    have PF : Hid _ := put_pre (v := ByteArray.empty) tr hk (by decide) hL hs hr
    have K0 : Hid _ := descend_any P sl vs sh 0 n root r k L f w h (by omega) (by omega) (Or.inl rfl) tr (by omega) (by omega) hr
    have c4 : decide ((root : Int) = 0) = false := by rw [decide_eq_false_iff_not]; omega
    unfold ifP at K0
    clear h rt hk hL hs hr tr
    go_enter Try.func14, Try.ntmps14
    go_wp2_with fail
    refine Calls.mono K0.out ?_
    rintro e w1 D
    rcases D with ⟨sv, sts, y, rfl, ST, hy, PV, S1, G1, W1⟩ | ⟨rfl, S1, G1, iz⟩
    · have D : Hid (Stp w1 w.heap.size sv sts (wayF r sh root k).1 ∧ Pv w1 y.agg (wayF r sh root k).2 ∧ Shf w1 P sl vs sh 0 (n + (wayF r sh root k).1.length + 1) ∧ Gw w w1 P none) := ⟨ST, PV, S1, G1⟩
      clear ST PV S1 G1 W1 hy K0
      obtain ⟨lf, ka, kn, kc, va, vn, vc, ia, im, ic⟩ := y
      dsimp only [V4.agg] at D ⊢
      have box := Bq.new w1 (.bool lf) (.slice ka kn kc) (.slice va vn vc) (.slice ia im ic) 54
      have BX : Hid _ := box
      obtain ⟨y0, y1, y2, y3⟩ := box.b4
      clear box
      have B2 : Hid _ := allocB w1 (.cells #[.bool lf, .slice ka kn kc, .slice va vn vc, .slice ia im ic] 54)
      go_upto_region 6 with fail
      generalize (w1.alloc (.cells #[.bool lf, .slice ka kn kc, .slice va vn vc, .slice ia im ic] 54)) = w2 at *
      have K1 : Hid _ := Find_leaf _ _ k w2 (D.out.2.1.below B2.out) PF.out.2.2.1.bd (leaf_keys PF.out.2.1).1 PF.out.1
      go_wp2_with fail
      refine Calls.mono K1.out ?_
      rintro e w3 ⟨rfl, b1⟩
      have B3 : Hid _ := nextB B2.out b1
      have BX3 : Hid _ := BX.out.below b1
      clear y0 y1 y2 y3 K1 b1
      have GT : Hid _ := way_get k TR.out
      cases fd : fnd (wayF r sh root k).2.keys k with
      | false =>
        rw [fd] at GT
        go_wp2_with fail
        go_ret2
        rw [GT.out]
        exact ⟨_, rfl, D.out.2.2.1.below B3.out, D.out.2.2.2.next B3.out, by omega, by have := PF.out.2.2.2.2.2.2.2.1; have := HR.out; omega⟩
      | true =>
        rw [fd] at GT
        obtain ⟨y0, y1, y2, y3⟩ := BX3.out.b4
        have P3 := D.out.2.1.below B3.out
        obtain ⟨_, _, _, _, _, _, _, _, _, e1, _, k2, _⟩ := P3.ex
        have hq := fnd_true fd
        have ev := (goodB_leaf PF.out.2.1 PF.out.1).1
        injection e1 with e1
        have e2 := congrArg Array.toList e1
        simp only [List.cons.injEq] at e2
        obtain ⟨_, _, e3, _⟩ := e2
        injection e3 with q1 q2 q3
        subst q1 q2 q3
        have hlt : posS (wayF r sh root k).2.keys k < (wayF r sh root k).2.vals.length := by rw [ev]; exact hq.1
        obtain ⟨ab, ao, rfl, _⟩ := k2.at (by have := k2.slen; omega)
        have c7 := k2.str (i := posS (wayF r sh root k).2.keys k) (by have := k2.slen; omega)
        have hj : posS (wayF r sh root k).2.keys k < vn := by have := k2.slen; omega
        have E9 : Hid (kAt (wayF r sh root k).2.vals (posS (wayF r sh root k).2.keys k) = (wayF r sh root k).2.vals.getD (posS (wayF r sh root k).2.keys k) ByteArray.empty) := rfl
        generalize (wayF r sh root k).2.vals.getD (posS (wayF r sh root k).2.keys k) ByteArray.empty = val at *
        rw [E9.out] at GT
        clear fd hq ev e1 k2 hlt P3 E9
        generalize posS (wayF r sh root k).2.keys k = j at *
        go_wp2_with fail
        go_ret2
        rw [GT.out]
        exact ⟨_, rfl, D.out.2.2.1.below B3.out, D.out.2.2.2.next B3.out, by omega, by have := PF.out.2.2.2.2.2.2.2.1; have := HR.out; omega⟩
    · exact absurd iz (by omega)

end Go.Proofs.Ythdjghmipepppaa

