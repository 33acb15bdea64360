/- Proved: the law PageSplits of package publicanlaw6 returns true for every page, whatever memory it starts in, on every schedule; no condition. -/
import Derived.Test.YtfedcghkohfhlaaAw
import Derived.Test.YtfedcghkohfhlaaSh
import Derived.Test.YtfedcghkohfhlaaSc
import Derived.Test.YtfedcghkohfhlaaSe
import Derived.Test.YtfedcghkohfhlaaPe
import Derived.Test.YtfedcghkohfhlaaSf
import Derived.Test.YtfedcghkohfhlaaRg
import Derived.Test.YtfedcghkohfhlaaY6
namespace Go.Proofs.Ytfedcghkohfhlaa.pageSplits
open Go.ChangeShapes Go.WideShapes Go.ChangeAt Go.RowKit Go.Deep Go.Joins Go.Maps
set_option linter.unusedVariables false
set_option linter.unusedSimpArgs false

set_option maxRecDepth 100000 in
set_option maxHeartbeats 4000000 in
theorem walk (w : World) (v : Value) (p : Pg) (h : Pv w v p) (s1 : Short p.keys) (s2 : Short p.vals) : Calls Try.prog 7 #[v] w fun e w' => e = .returned (.bool true) ∧ Below w.heap.size w w' := by
  have HK := h.kid
  have HP : Hid _ := h
  have SH : Hid _ := And.intro s1 s2
  obtain ⟨ap, mp, cp, dp, np, fp, gp, op, hp, rfl, H1, H2, H3⟩ := h.ex
  have LL : Hid _ := And.intro H1.slen H2.slen
  clear s1 s2 h H1 H2 H3
  have L0 : Hid _ := And.intro (allocB w (.cells #[.bool p.leaf, .slice ap mp cp, .slice dp np fp, .slice gp op hp] 26)) (B4.new w (.bool p.leaf) (.slice ap mp cp) (.slice dp np fp) (.slice gp op hp) 26)
  go_enter Try.func7, Try.ntmps7
  go_upto_region 1 with fail
  generalize w.alloc (.cells #[.bool p.leaf, .slice ap mp cp, .slice dp np fp, .slice gp op hp] 26) = w0 at *
  go_wp2_with fail
  refine Calls.mono (awake_any w0) ?_
  rintro e w1 ⟨rfl, b1⟩
  have P1 : Hid _ := HP.out.below (nextB L0.out.1 b1)
  have L1 : Hid _ := L0.out.2.below b1
  have B1 : Hid (Below w.heap.size w w1) := nextB L0.out.1 b1
  clear L0 HP b1
  obtain ⟨x0, x1, x2, x3⟩ := L1.out
  go_wp2_with fail
  refine Calls.mono (great_any _ p w1 P1.out SH.out.1 SH.out.2) ?_
  rintro e w2 ⟨⟨g, rfl, SM⟩, b2⟩
  clear x0 x1 x2 x3
  cases g with
  | true =>
    clear SM
    go_wp2
    exact bodyPost_ret (v := .bool true) (by simp [results, Try.results7, go_sem]) rfl ⟨rfl, nextB B1.out b2⟩
  | false =>
    have SM' : Hid _ := SM rfl
    clear SM
    have P2 : Hid _ := P1.out.below b2
    have L2 : Hid _ := L1.out.below b2
    have B2 : Hid (Below w.heap.size w w2) := nextB B1.out b2
    clear P1 L1 B1 b2 SH
    obtain ⟨x0, x1, x2, x3⟩ := L2.out
    have BD : Hid _ := SM'.out.bd HK
    go_wp2_with fail
    refine Calls.mono (Good_any _ p w2 P2.out BD.out) ?_
    rintro e w3 ⟨rfl, b3⟩
    clear x0 x1 x2 x3
    have P3 : Hid _ := P2.out.below b3
    have L3 : Hid _ := L2.out.below b3
    have B3 : Hid (Below w.heap.size w w3) := nextB B2.out b3
    clear P2 L2 B2 b3
    obtain ⟨x0, x1, x2, x3⟩ := L3.out
    cases hG : goodB p with
    | false =>
      go_wp2
      exact bodyPost_ret (v := .bool true) (by simp [results, Try.results7, go_sem]) rfl ⟨rfl, B3.out⟩
    | true =>
      cases hl : p.leaf with
      | false =>
        rw [hl] at x0
        go_wp2
        exact bodyPost_ret (v := .bool true) (by simp [results, Try.results7, go_sem]) rfl ⟨rfl, B3.out⟩
      | true =>
        rw [hl] at L3 x0
        by_cases h2 : 2 ≤ p.keys.length
        · have c2 : ¬ (mp : Int) < 2 := by have := LL.out.1; omega
          have FT : Hid _ := SM'.out.fit HK hG
          have HG : Hid _ := hG
          have HL : Hid _ := hl
          have H2 : Hid _ := h2
          have KS : Hid _ := Split_leaf _ p w3 P3.out FT.out hl h2
          rw [hl] at KS P3
          clear hG hl h2
          go_wp2_with fail
          refine Calls.mono KS.out ?_
          rintro e w4 ⟨va, vb, rfl, A4', C4', -, b4⟩
          clear x0 x1 x2 x3 KS
          have A4 : Hid _ := A4'
          have C4 : Hid _ := C4'
          obtain ⟨aa, ma, ca, da, na, fa, ga, oa, ha, rfl, U1, U2, U3⟩ := A4'.ex
          obtain ⟨ab, mb, cb, db, nb, fb, gb, ob, hb, rfl, V1, V2, V3⟩ := C4'.ex
          have LA : Hid (ma = mid (szs p.keys p.vals) ∧ na = mid (szs p.keys p.vals) ∧ mb = p.keys.length - mid (szs p.keys p.vals) ∧ nb = p.keys.length - mid (szs p.keys p.vals) ∧ 1 ≤ mid (szs p.keys p.vals) ∧ mid (szs p.keys p.vals) < p.keys.length) := by
            have e := (goodB_leaf HG.out HL.out).1
            have m := mid_bd (l := szs p.keys p.vals) (by rw [szs_len _ _ e]; exact H2.out)
            rw [szs_len _ _ e] at m
            have u1 := U1.slen
            have u2 := U2.slen
            have v1 := V1.slen
            have v2 := V2.slen
            unfold lfA at u1 u2
            unfold lfB at v1 v2
            simp only [List.length_take, List.length_drop] at u1 u2 v1 v2
            show _ ∧ _
            omega
          clear A4' C4' U1 U2 U3 V1 V2 V3
          have lfa : (lfA p).leaf = true := rfl
          have lfb : (lfB p).leaf = true := rfl
          rw [lfa] at A4
          rw [lfb] at C4
          have P4 : Hid _ := P3.out.below b4
          have L4 : Hid _ := L3.out.below b4
          have B4' : Hid (Below w.heap.size w w4) := nextB B3.out b4
          clear P3 L3 B3 b4
          have M1 : Hid _ := And.intro (allocB w4 (.cells #[.bool true, .slice aa ma ca, .slice da na fa, .slice ga oa ha] 26)) (B4.new w4 (.bool true) (.slice aa ma ca) (.slice da na fa) (.slice ga oa ha) 26)
          have M2 : Hid _ := And.intro (allocB (w4.alloc (.cells #[.bool true, .slice aa ma ca, .slice da na fa, .slice ga oa ha] 26)) (.cells #[.bool true, .slice ab mb cb, .slice db nb fb, .slice gb ob hb] 26)) (B4.new (w4.alloc (.cells #[.bool true, .slice aa ma ca, .slice da na fa, .slice ga oa ha] 26)) (.bool true) (.slice ab mb cb) (.slice db nb fb) (.slice gb ob hb) 26)
          have HK2 : Hid (kAt p.keys (mid (szs p.keys p.vals)) = kAt (lfB p).keys 0) := by show _ = _; unfold lfB; simp only; rw [kAt_drop]; rfl
          generalize kAt p.keys (mid (szs p.keys p.vals)) = kk at *
          go_upto_region 6 with fail
          clear lfa lfb
          have sz : (w4.alloc (.cells #[.bool true, .slice aa ma ca, .slice da na fa, .slice ga oa ha] 26)).heap.size = w4.heap.size + 1 := by simp
          have M2a : Hid _ := M2.out.1
          have M2b : Hid _ := M2.out.2
          rw [sz] at M2b
          clear M2
          generalize (w4.alloc (.cells #[.bool true, .slice aa ma ca, .slice da na fa, .slice ga oa ha] 26)) = w5 at *
          generalize (w5.alloc (.cells #[.bool true, .slice ab mb cb, .slice db nb fb, .slice gb ob hb] 26)) = w6 at *
          have P6 : Hid _ := (P4.out.below M1.out.1).below M2a.out
          have A6 : Hid _ := (A4.out.below M1.out.1).below M2a.out
          have C6 : Hid _ := (C4.out.below M1.out.1).below M2a.out
          have L6 : Hid _ := (L4.out.below M1.out.1).below M2a.out
          have N6 : Hid _ := M1.out.2.below M2a.out
          have O6 : Hid _ := M2b.out
          have B6 : Hid (Below w.heap.size w w6) := nextB (nextB B4'.out M1.out.1) M2a.out
          clear P4 A4 C4 L4 M1 M2a M2b B4' sz
          have GA : Hid _ := good_lfA HG.out HL.out
          have GB : Hid _ := good_lfB HG.out HL.out
          have FA : Hid _ := (small_lfA SM'.out).fit (fun k hk => by simp [lfA] at hk) GA.out
          have FB : Hid _ := (small_lfB SM'.out).fit (fun k hk => by simp [lfB] at hk) GB.out
          obtain ⟨x0, x1, x2, x3⟩ := N6.out
          have KA : Hid _ := Good_any _ _ w6 A6.out FA.out.bd
          rw [GA.out] at KA
          go_wp2_with fail
          refine Calls.mono KA.out ?_
          rintro e w7 ⟨rfl, b7⟩
          clear x0 x1 x2 x3 KA
          obtain ⟨x0, x1, x2, x3⟩ := O6.out.below b7
          have KB : Hid _ := Good_any _ _ w7 (C6.out.below b7) FB.out.bd
          rw [GB.out] at KB
          go_wp2_with fail
          refine Calls.mono KB.out ?_
          rintro e w8 ⟨rfl, b8⟩
          clear x0 x1 x2 x3 KB
          have B8 : Hid (Below w6.heap.size w6 w8) := nextB b7 b8
          clear b7 b8
          obtain ⟨x0, x1, x2, x3⟩ := O6.out.below B8.out
          obtain ⟨y0, y1, y2, y3⟩ := N6.out.below B8.out
          obtain ⟨z0, z1, z2, z3⟩ := L6.out.below B8.out
          obtain ⟨hh0, R1, R2, R3⟩ := (C6.out.below B8.out).parts
          have lm : ma ≤ 60 ∧ mb ≤ 60 ∧ mp ≤ 60 ∧ 1 ≤ ma ∧ 1 ≤ mb := by
            have := LA.out
            have := LL.out
            have := SM'.out.keys
            omega
          obtain ⟨l1, l2, l3, l4, l5⟩ := lm
          obtain ⟨bb, oo, rfl, _⟩ := R1.at (by omega)
          have e1 : w8.cell? ⟨bb, oo, none⟩ = some (.string kk) := by
            have := R1.str (i := 0) (by omega)
            rw [HK2.out]
            exact this
          have q1 : ((ma : Int) == 0) = false := beq_eq_false_iff_ne.2 (by omega)
          have q2 : ((mb : Int) == 0) = false := beq_eq_false_iff_ne.2 (by omega)
          have q3 : (kk.toList != kk.toList) = false := by simp
          have q4 : ((ma : Int) + (mb : Int) != (mp : Int)) = false := by
            have := LA.out
            have := LL.out
            simp only [bne_eq_false_iff_eq]
            omega
          have c5 : (0 : Int) < (mb : Int) := by omega
          clear R1 R2 R3 HK2 hh0 l4 l5
          go_wp2_with fail
          clear x0 x1 x2 x3 y0 y1 y2 y3 z0 z1 z2 z3 e1 q1 q2 q3 q4 c5
          go_loopg [6] mp (fun g iv wr => ∃ k : Nat, k ≤ mp ∧ g = mp - k ∧ iv = .int .i64 (k : Nat) ∧ Hid (Below w6.heap.size w6 wr))
          case atStart => exact ⟨0, Nat.zero_le _, rfl, rfl, B8.out⟩
          case round =>
            obtain ⟨k, hk, rfl, rfl, hB⟩ := hrel
            obtain ⟨x0, x1, x2, x3⟩ := O6.out.below hB.out
            obtain ⟨y0, y1, y2, y3⟩ := N6.out.below hB.out
            obtain ⟨z0, z1, z2, z3⟩ := L6.out.below hB.out
            by_cases c : k < mp
            · have c' : (k : Int) < (mp : Int) := by omega
              obtain ⟨-, p1, p2, -⟩ := (P6.out.below hB.out).parts
              obtain ⟨-, u1, u2, -⟩ := (A6.out.below hB.out).parts
              obtain ⟨-, v1, v2, -⟩ := (C6.out.below hB.out).parts
              have ln : np = mp := by
                have := LL.out
                have := (goodB_leaf HG.out HL.out).1
                omega
              obtain ⟨b1, o1, rfl, _⟩ := p1.at (by omega)
              obtain ⟨b2, o2, rfl, _⟩ := p2.at (by omega)
              have e1 : wr.cell? ⟨b1, o1 + k, none⟩ = some (.string (kAt p.keys k)) := p1.str c
              have e2 : wr.cell? ⟨b2, o2 + k, none⟩ = some (.string (kAt p.vals k)) := p2.str (by omega)
              by_cases d : k < ma
              · have d' : (k : Int) < (ma : Int) := by omega
                have na' : na = ma := by have := LA.out; omega
                obtain ⟨b3, o3, rfl, _⟩ := u1.at (by omega)
                obtain ⟨b4, o4, rfl, _⟩ := u2.at (by omega)
                have e3 : wr.cell? ⟨b3, o3 + k, none⟩ = some (.string (kAt p.keys k)) := by
                  have := u1.str d
                  rw [← kAt_take (ks := p.keys) (k := mid (szs p.keys p.vals)) (t := k) (by have := LA.out; omega)]
                  exact this
                have e4 : wr.cell? ⟨b4, o4 + k, none⟩ = some (.string (kAt p.vals k)) := by
                  have := u2.str (i := k) (by omega)
                  rw [← kAt_take (ks := p.vals) (k := mid (szs p.keys p.vals)) (t := k) (by have := LA.out; omega)]
                  exact this
                clear p1 p2 u1 u2 v1 v2
                subst na' ln
                generalize kAt p.keys k = s at *
                generalize kAt p.vals k = t at *
                have q3 : (s.toList != s.toList) = false := by simp
                have q4 : (t.toList != t.toList) = false := by simp
                go_wp2_with fail
                go_quiet (fail)
                go_wp2
                go_roundg (np - (k + 1))
                case measure => omega
                case rel => exact ⟨k + 1, by omega, rfl, by go_num, nextB hB.out (drewB _ _)⟩
              · have d' : ¬ (k : Int) < (ma : Int) := by omega
                obtain ⟨j, rfl⟩ : ∃ j, k = ma + j := ⟨k - ma, by omega⟩
                have jm : j < mb := by have := LA.out; have := LL.out; omega
                have nb' : nb = mb := by have := LA.out; omega
                obtain ⟨b4, o4, rfl, _⟩ := v2.at (by omega)
                have e3 : wr.cell? ⟨bb, oo + j, none⟩ = some (.string (kAt p.keys (ma + j))) := by
                  have h := v1.str jm
                  have q := kAt_drop p.keys (mid (szs p.keys p.vals)) j
                  rw [← (show ma = mid (szs p.keys p.vals) by have := LA.out; omega)] at q
                  rw [← q, (show ma = mid (szs p.keys p.vals) by have := LA.out; omega)]
                  exact h
                have e4 : wr.cell? ⟨b4, o4 + j, none⟩ = some (.string (kAt p.vals (ma + j))) := by
                  have h := v2.str (i := j) (by omega)
                  have q := kAt_drop p.vals (mid (szs p.keys p.vals)) j
                  rw [← (show ma = mid (szs p.keys p.vals) by have := LA.out; omega)] at q
                  rw [← q, (show ma = mid (szs p.keys p.vals) by have := LA.out; omega)]
                  exact h
                clear p1 p2 u1 u2 v1 v2
                subst nb' ln
                generalize kAt p.keys (ma + j) = s at *
                generalize kAt p.vals (ma + j) = t at *
                have HM : Hid (ma + j < np) := c
                generalize hk2 : ma + j = k at *
                have dj : (k : Int) - (ma : Int) = (j : Int) := by omega
                have jm' : (j : Int) < (nb : Int) := by omega
                have KJ : Hid (ma + j = k) := hk2
                clear hk2
                have q3 : (s.toList != s.toList) = false := by simp
                have q4 : (t.toList != t.toList) = false := by simp
                go_wp2_with fail
                go_quiet (fail)
                go_wp2
                go_roundg (np - (k + 1))
                case measure => omega
                case rel => exact ⟨k + 1, by omega, rfl, by go_num, nextB hB.out (drewB _ _)⟩
            · obtain rfl : mp = k := by omega
              have KP : Hid _ := Bytes_any _ _ wr (P6.out.below hB.out) FT.out
              have LN : Hid _ := encP_len FT.out
              by_cases c9 : 1340 < (encP p).length
              · have c9' : (1340 : Int) < ((encP p).length : Int) := by omega
                have LN2 := LN.out
                generalize (encP p).length = ee at *
                go_wp2_with fail
                refine Calls.mono KP.out ?_
                rintro e w9 ⟨rfl, b9⟩
                go_wp2
                exact bodyPost_ret (v := .bool true) (by simp [results, Try.results7, go_sem]) rfl ⟨rfl, nextB B6.out (nextB hB.out b9)⟩
              · have c9' : ¬ (1340 : Int) < ((encP p).length : Int) := by omega
                have HF : Hid _ := halves_fit HG.out HL.out SM'.out H2.out (by omega)
                have LN2 := LN.out
                generalize (encP p).length = ee at *
                go_wp2_with fail
                refine Calls.mono KP.out ?_
                rintro e w9 ⟨rfl, b9⟩
                have B9 : Hid (Below w6.heap.size w6 w9) := nextB hB.out b9
                clear b9 x0 x1 x2 x3 y0 y1 y2 y3 z0 z1 z2 z3
                obtain ⟨y0, y1, y2, y3⟩ := N6.out.below B9.out
                have KA : Hid _ := Bytes_any _ _ w9 (A6.out.below B9.out) FA.out
                have h1 : ((encP (lfA p)).length : Int) ≤ 900 := by have := HF.out; omega
                generalize (encP (lfA p)).length = ea at *
                go_wp2_with fail
                refine Calls.mono KA.out ?_
                rintro e wa ⟨rfl, ba⟩
                have Ba : Hid (Below w6.heap.size w6 wa) := nextB B9.out ba
                clear ba y0 y1 y2 y3
                obtain ⟨x0, x1, x2, x3⟩ := O6.out.below Ba.out
                have KB : Hid _ := Bytes_any _ _ wa (C6.out.below Ba.out) FB.out
                have h2 : ((encP (lfB p)).length : Int) ≤ 900 := by have := HF.out; omega
                generalize (encP (lfB p)).length = eb at *
                go_wp2_with fail
                refine Calls.mono KB.out ?_
                rintro e wb ⟨rfl, bb9⟩
                go_wp2
                exact bodyPost_ret (v := .bool true) (by simp [results, Try.results7, go_sem]) rfl ⟨rfl, nextB B6.out (nextB Ba.out bb9)⟩

        · have c2 : (mp : Int) < 2 := by have := LL.out.1; omega
          go_wp2
          exact bodyPost_ret (v := .bool true) (by simp [results, Try.results7, go_sem]) rfl ⟨rfl, B3.out⟩


set_option maxRecDepth 100000 in
theorem lifted (os : Os) (started : os.Started) (H : Type) (enc : TypeId × Value → H) :
    ReturnsInHanded {} Try.checked os 7 .any (Rows.pageSplitsSpec.pre6 enc Try.prog Try.f7 Rows.pageSplitsRow.domain false) (Rows.pageSplitsSpec.post enc Try.prog Try.f7 false true false false) := by
  refine returnsInHanded_of_change_sized (C := Try.checked) own started (by kernel_rfl) Try.func7
    (ChangeSpec.witness6 (enc := enc) (C := Try.checked) false ⟨#[], #[.agg #[.bool false, .slice none 0 0, .slice none 0 0, .slice none 0 0]], []⟩ 8 (by kernel_rfl) (by kernel_rfl) (by kernel_rfl) (by kernel_rfl)) ?_
  intro W base args ds gs before hval0 hW hcnd hwt _
  have hval : ∀ (j : Nat) t v, Try.f7.params[j]? = some t → args[j]? = some v → Value.okWide Try.prog W .any base t v := hval0
  have hwz : ∀ (j : Nat) t d, (Try.f7.params.toList ++ Rows.pageSplitsSpec.plain.varTypes Try.prog)[j]? = some t → (ds ++ gs)[j]? = some d → ∀ n ∈ d.weights Try.prog t, n ≤ reachBytes := fun j t d ht hd n hn => by
    simpa using List.all_eq_true.1 hwt n (DataW.weights_mem_each ht hd n hn)
  have hW' := hW
  obtain ⟨p, q, hA0, hV, rfl, hfz, hnd⟩ := hW
  have hA : DataW.TrodAll enc Try.prog W 0 (fun _ => true) true Try.f7.params.toList args.toList ds p := hA0
  rw [Try.params7] at hA hval hwz
  obtain ⟨v0, vs0, d0, ds0, p0, q0, hargs, rfl, rfl, h0, r0⟩ := trodAll_cons hA
  obtain ⟨rfl, rfl, rfl⟩ := trodAll_nil r0
  obtain rfl : args = #[v0] := by cases args; simp_all
  obtain ⟨rfl, rfl⟩ := trodVars_none hV
  have k0 := h0
  have lt0 : ∀ x ∈ p0, x.block < W.heap.size := by obtain ⟨m, hm⟩ := k0; exact DataW.trod_lt m _ _ _ hm
  obtain ⟨g0, w0, x0, y0⟩ := pg_of (hval 0 26 v0 rfl rfl) h0 (hwz 0 26 d0 rfl rfl)
  clear hA0 hval0
  try simp only [List.append_nil, List.nil_append] at hW'
  refine (walk W v0 g0 w0 x0 y0).mono fun e W' ⟨he, bel⟩ => ?_
  subst he
  exact ⟨_, rfl, _, _, _, [], _, [], hW', trodAll_mk1 (shut_bool Try.underlying4 _), (trodAll_cons_mk (Below.trod laidOut (by kernel_rfl) (of_decide_eq_true (by kernel_rfl)) k0 bel lt0) trodAll_mk0), rfl, bel.frame _, fun h => by cases h⟩

theorem over : Rows.pageSplitsRow.holds Try.pinned (OpenSpec.ofChange Rows.pageSplitsSpec) :=
  OpenClaim.holds_of_wide 7 Try.f7 rfl rfl rfl rfl rfl rfl rfl ⟨rfl, rfl, rfl, rfl, rfl⟩ rfl rfl rfl rfl rfl (by kernel_rfl) Try.func7 (by kernel_rfl)
    (of_decide_eq_true (by kernel_rfl)) (by unfold Func.isWrapper; first | (rw [if_pos (by decide +kernel)]; kernel_rfl) | (rw [if_neg (by decide +kernel)]; exact ⟨rfl, rfl⟩))
    (fun os started H enc _ => lifted os started H enc)

end Go.Proofs.Ytfedcghkohfhlaa.pageSplits
namespace Go.Proofs.Ytfedcghkohfhlaa

theorem PageSplits_holds : Rows.PageSplitsSaid := pageSplits.over

end Go.Proofs.Ytfedcghkohfhlaa
