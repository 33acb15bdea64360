/- Proved: the law PageKeys of package publicanlaw6 returns true for every page, key and value, whatever memory it starts in, on every schedule; no condition. -/
import Derived.Test.YtfedcghkohfhlaaAw
import Derived.Test.YtfedcghkohfhlaaSh
import Derived.Test.YtfedcghkohfhlaaSc
import Derived.Test.YtfedcghkohfhlaaZr
import Derived.Test.YtfedcghkohfhlaaZn
import Derived.Test.YtfedcghkohfhlaaX4
import Derived.Test.YtfedcghkohfhlaaU2
namespace Go.Proofs.Ytfedcghkohfhlaa.pageKeys
open Go.ChangeShapes Go.WideShapes Go.ChangeAt Go.RowKit Go.Deep Go.Joins Go.Maps Go.ChangeMaps
set_option linter.unusedVariables false
set_option linter.unusedSimpArgs false

set_option maxRecDepth 100000 in
set_option maxHeartbeats 8000000 in
theorem walk (w : World) (v : Value) (p : Pg) (h : Pv w v p) (s1 : Short p.keys) (s2 : Short p.vals) (key : ByteArray) (hkey : key.size ≤ maxLen) (val : ByteArray) (hval : val.size ≤ maxLen) : Calls Try.prog 6 #[v, .string key, .string val] w fun e w' => e = .returned (.bool true) ∧ Below w.heap.size w w' := by
  unfold maxLen at hkey hval
  have HK := h.kid
  have HP : Hid _ := h
  have SH : Hid _ := And.intro s1 s2
  obtain ⟨ap, mp, cp, dp, np, fp, gp, op, hp, rfl, _, _, _⟩ := h.ex
  clear s1 s2 h
  have L0 : Hid _ := And.intro (allocB w (.cells #[.bool p.leaf, .slice ap mp cp, .slice dp np fp, .slice gp op hp] 26)) (B4.new w (.bool p.leaf) (.slice ap mp cp) (.slice dp np fp) (.slice gp op hp) 26)
  go_enter Try.func6, Try.ntmps6
  go_upto_region 1 with fail
  generalize (w.alloc (.cells #[.bool p.leaf, .slice ap mp cp, .slice dp np fp, .slice gp op hp] 26)) = w0 at *
  go_wp2_with fail
  refine Calls.mono (awake_any w0) ?_
  rintro e w1 ⟨rfl, b1⟩
  have P1 : Hid _ := HP.out.below (nextB L0.out.1 b1)
  have L1 : Hid _ := L0.out.2.below b1
  have B1 : Hid (Below w.heap.size w w1) := nextB L0.out.1 b1
  clear L0 HP b1
  obtain ⟨x0, x1, x2, x3⟩ := L1.out
  go_wp2_with fail
  refine Calls.mono (great_any _ p w1 P1.out SH.out.1 SH.out.2) ?_
  rintro e w2 ⟨⟨g, rfl, SM⟩, b2⟩
  clear x0 x1 x2 x3
  cases g with
  | true =>
    clear SM
    go_wp2
    exact bodyPost_ret (v := .bool true) (by simp [results, Try.results6, go_sem]) rfl ⟨rfl, nextB B1.out b2⟩
  | false =>
    have SM' : Hid _ := SM rfl
    clear SM
    have P2 : Hid _ := P1.out.below b2
    have L2 : Hid _ := L1.out.below b2
    have B2 : Hid (Below w.heap.size w w2) := nextB B1.out b2
    clear P1 L1 B1 b2 SH
    obtain ⟨x0, x1, x2, x3⟩ := L2.out
    have BDp : Hid _ := SM'.out.bd HK
    go_wp2_with fail
    refine Calls.mono (Good_any _ p w2 P2.out BDp.out) ?_
    rintro e w3 ⟨rfl, b3⟩
    clear x0 x1 x2 x3
    have P3 : Hid _ := P2.out.below b3
    have L3 : Hid _ := L2.out.below b3
    have B3 : Hid (Below w.heap.size w w3) := nextB B2.out b3
    clear P2 L2 B2 b3
    obtain ⟨x0, x1, x2, x3⟩ := L3.out
    cases hG : goodB p with
    | false =>
      go_wp2
      exact bodyPost_ret (v := .bool true) (by simp [results, Try.results6, go_sem]) rfl ⟨rfl, B3.out⟩
    | true =>
      by_cases e1 : key.size < 1
      · have e1' : (key.size : Int) < 1 := by omega
        go_wp2
        exact bodyPost_ret (v := .bool true) (by simp [results, Try.results6, go_sem]) rfl ⟨rfl, B3.out⟩
      have e1' : ¬ (key.size : Int) < 1 := by omega
      by_cases e2 : 40 < key.size
      · have e2' : (40 : Int) < (key.size : Int) := by omega
        go_wp2
        exact bodyPost_ret (v := .bool true) (by simp [results, Try.results6, go_sem]) rfl ⟨rfl, B3.out⟩
      have e2' : ¬ (40 : Int) < (key.size : Int) := by omega
      by_cases e3 : 400 < val.size
      · have e3' : (400 : Int) < (val.size : Int) := by omega
        go_wp2
        exact bodyPost_ret (v := .bool true) (by simp [results, Try.results6, go_sem]) rfl ⟨rfl, B3.out⟩
      have e3' : ¬ (400 : Int) < (val.size : Int) := by omega
      have FT : Hid _ := SM'.out.fit HK hG
      have GD : Hid _ := hG
      have RS : Hid _ := keysB_rise (goodB_parts hG).1
      have e4 : decide ((key.size : Int) < 1) = false := decide_eq_false (by omega)
      have e5 : decide ((40 : Int) < (key.size : Int)) = false := decide_eq_false (by omega)
      have e6 : decide ((400 : Int) < (val.size : Int)) = false := decide_eq_false (by omega)
      clear hG
      go_wp2_with fail
      refine Calls.mono (own_page _ p w3 P3.out BDp.out) ?_
      rintro e w4 ⟨⟨v4, rfl, Q4'⟩, b4⟩
      clear x0 x1 x2 x3 e4 e5 e6 e1' e2' e3'
      have Q4 : Hid _ := Q4'
      obtain ⟨ak, mk, ck, dk, nk, fk, gk, ok, hk, rfl, _, _, _⟩ := Q4'.ex
      clear Q4'
      have P4 : Hid _ := P3.out.below b4
      have L4 : Hid _ := L3.out.below b4
      have B4' : Hid (Below w.heap.size w w4) := nextB B3.out b4
      clear P3 L3 B3 b4
      have M4 : Hid _ := And.intro (allocB w4 (.cells #[.bool p.leaf, .slice ak mk ck, .slice dk nk fk, .slice gk ok hk] 35)) (B4.new w4 (.bool p.leaf) (.slice ak mk ck) (.slice dk nk fk) (.slice gk ok hk) 35)
      go_upto_region 6 with fail
      generalize (w4.alloc (.cells #[.bool p.leaf, .slice ak mk ck, .slice dk nk fk, .slice gk ok hk] 35)) = w5 at *
      have P5 : Hid _ := P4.out.below M4.out.1
      have Q5 : Hid _ := Q4.out.below M4.out.1
      have L5 : Hid _ := L4.out.below M4.out.1
      have M5 : Hid _ := M4.out.2
      have B5 : Hid (Below w.heap.size w w5) := nextB B4'.out M4.out.1
      clear P4 Q4 L4 M4 B4'
      obtain ⟨x0, x1, x2, x3⟩ := L5.out
      have K6 : Hid _ := Split_any _ p w5 P5.out FT.out GD.out
      have K7 : Hid (∀ W, Below w5.heap.size w5 W → Calls Try.prog 21 #[.agg #[.bool p.leaf, .slice ak mk ck, .slice dk nk fk, .slice gk ok hk]] W fun e w' => NewT W w' e (spA p) (spK p) (spB p)) := fun W b => kSplit_any _ p W (Q5.out.below b) FT.out GD.out
      have BAB : Hid _ := sp_bd BDp.out
      generalize spA p = PA at *
      generalize spB p = PB at *
      generalize spK p = kk at *
      go_wp2_with fail
      refine Calls.mono K6.out ?_
      rintro e w6 ⟨va1, vb1, rfl, A6', C6', b6⟩
      clear x0 x1 x2 x3 K6
      have A6 : Hid _ := A6'
      have C6 : Hid _ := C6'
      obtain ⟨a1, m1, c1, d1, n1, f1, g1, o1, h1, rfl, _, _, _⟩ := A6'.ex
      obtain ⟨a2, m2, c2, d2, n2, f2, g2, o2, h2, rfl, _, _, _⟩ := C6'.ex
      clear A6' C6'
      have N6 : Hid _ := And.intro (allocB w6 (.cells #[.bool PA.leaf, .slice a1 m1 c1, .slice d1 n1 f1, .slice g1 o1 h1] 26)) (B4.new w6 (.bool PA.leaf) (.slice a1 m1 c1) (.slice d1 n1 f1) (.slice g1 o1 h1) 26)
      have O6 : Hid _ := And.intro (allocB (w6.alloc (.cells #[.bool PA.leaf, .slice a1 m1 c1, .slice d1 n1 f1, .slice g1 o1 h1] 26)) (.cells #[.bool PB.leaf, .slice a2 m2 c2, .slice d2 n2 f2, .slice g2 o2 h2] 26)) (B4.new (w6.alloc (.cells #[.bool PA.leaf, .slice a1 m1 c1, .slice d1 n1 f1, .slice g1 o1 h1] 26)) (.bool PB.leaf) (.slice a2 m2 c2) (.slice d2 n2 f2) (.slice g2 o2 h2) 26)
      go_upto_region 7 with fail
      have szw6 : (w6.alloc (.cells #[.bool PA.leaf, .slice a1 m1 c1, .slice d1 n1 f1, .slice g1 o1 h1] 26)).heap.size = w6.heap.size + 1 := by simp
      have O6a : Hid _ := O6.out.1
      have O6b : Hid _ := O6.out.2
      rw [szw6] at O6b
      clear O6 szw6
      generalize (w6.alloc (.cells #[.bool PA.leaf, .slice a1 m1 c1, .slice d1 n1 f1, .slice g1 o1 h1] 26)) = w6a at *
      generalize w6a.alloc (.cells #[.bool PB.leaf, .slice a2 m2 c2, .slice d2 n2 f2, .slice g2 o2 h2] 26) = w7 at *
      have B67 : Hid (Below w5.heap.size w5 w7) := nextB (nextB b6 N6.out.1) O6a.out
      have A7 : Hid _ := (A6.out.below N6.out.1).below O6a.out
      have C7 : Hid _ := (C6.out.below N6.out.1).below O6a.out
      have N7 : Hid _ := N6.out.2.below O6a.out
      have O7 : Hid _ := O6b.out
      clear A6 C6 N6 O6a O6b b6
      obtain ⟨x0, x1, x2, x3⟩ := M5.out.below B67.out
      go_wp2_with fail
      refine Calls.mono (K7.out w7 B67.out) ?_
      rintro e w8 ⟨va2, vb2, rfl, A8', C8', b8⟩
      clear x0 x1 x2 x3 K7
      have A8 : Hid _ := A8'
      have C8 : Hid _ := C8'
      obtain ⟨a3, m3, c3, d3, n3, f3, g3, o3, h3, rfl, _, _, _⟩ := A8'.ex
      obtain ⟨a4, m4, c4, d4, n4, f4, g4, o4, h4, rfl, _, _, _⟩ := C8'.ex
      clear A8' C8'
      have N8 : Hid _ := And.intro (allocB w8 (.cells #[.bool PA.leaf, .slice a3 m3 c3, .slice d3 n3 f3, .slice g3 o3 h3] 35)) (B4.new w8 (.bool PA.leaf) (.slice a3 m3 c3) (.slice d3 n3 f3) (.slice g3 o3 h3) 35)
      have O8 : Hid _ := And.intro (allocB (w8.alloc (.cells #[.bool PA.leaf, .slice a3 m3 c3, .slice d3 n3 f3, .slice g3 o3 h3] 35)) (.cells #[.bool PB.leaf, .slice a4 m4 c4, .slice d4 n4 f4, .slice g4 o4 h4] 35)) (B4.new (w8.alloc (.cells #[.bool PA.leaf, .slice a3 m3 c3, .slice d3 n3 f3, .slice g3 o3 h3] 35)) (.bool PB.leaf) (.slice a4 m4 c4) (.slice d4 n4 f4) (.slice g4 o4 h4) 35)
      go_upto_region 8 with fail
      have szw8 : (w8.alloc (.cells #[.bool PA.leaf, .slice a3 m3 c3, .slice d3 n3 f3, .slice g3 o3 h3] 35)).heap.size = w8.heap.size + 1 := by simp
      have O8a : Hid _ := O8.out.1
      have O8b : Hid _ := O8.out.2
      rw [szw8] at O8b
      clear O8 szw8
      generalize (w8.alloc (.cells #[.bool PA.leaf, .slice a3 m3 c3, .slice d3 n3 f3, .slice g3 o3 h3] 35)) = w8a at *
      generalize w8a.alloc (.cells #[.bool PB.leaf, .slice a4 m4 c4, .slice d4 n4 f4, .slice g4 o4 h4] 35) = w9 at *
      have B79 : Hid (Below w7.heap.size w7 w9) := nextB (nextB b8 N8.out.1) O8a.out
      have A9 : Hid _ := And.intro (A7.out.below B79.out) ((A8.out.below N8.out.1).below O8a.out)
      have C9 : Hid _ := And.intro (C7.out.below B79.out) ((C8.out.below N8.out.1).below O8a.out)
      have X9 : Hid _ := N7.out.below B79.out
      have Y9 : Hid _ := O7.out.below B79.out
      have Z9 : Hid _ := N8.out.2.below O8a.out
      have V9 : Hid _ := O8b.out
      have B59 : Hid (Below w5.heap.size w5 w9) := nextB B67.out B79.out
      have BW9 : Hid (Below w.heap.size w w9) := nextB B5.out B59.out
      have PP : Hid (∀ W, Below w9.heap.size w9 W → Pv W (.agg #[.bool p.leaf, .slice ap mp cp, .slice dp np fp, .slice gp op hp]) p) := fun W b => (P5.out.below B59.out).below b
      have PW : Hid (∀ W, Below w9.heap.size w9 W → Pv W (.agg #[.bool p.leaf, .slice ak mk ck, .slice dk nk fk, .slice gk ok hk]) p) := fun W b => (Q5.out.below B59.out).below b
      have SS : Hid (∀ W, Below w9.heap.size w9 W → W.cell? ⟨w.heap.size, 0, none⟩ = some (.bool p.leaf) ∧ W.cell? ⟨w.heap.size, 1, none⟩ = some (.slice ap mp cp) ∧ W.cell? ⟨w.heap.size, 2, none⟩ = some (.slice dp np fp) ∧ W.cell? ⟨w.heap.size, 3, none⟩ = some (.slice gp op hp) ∧ W.cell? ⟨w4.heap.size, 0, none⟩ = some (.bool p.leaf) ∧ W.cell? ⟨w4.heap.size, 1, none⟩ = some (.slice ak mk ck) ∧ W.cell? ⟨w4.heap.size, 2, none⟩ = some (.slice dk nk fk) ∧ W.cell? ⟨w4.heap.size, 3, none⟩ = some (.slice gk ok hk)) := fun W b => by
        have q := (L5.out.below B59.out).below b
        have r := (M5.out.below B59.out).below b
        exact ⟨q.a0, q.a1, q.a2, q.a3, r.a0, r.a1, r.a2, r.a3⟩
      clear A7 C7 N7 O7 A8 C8 N8 O8a O8b b8 B67 B79 P5 Q5 L5 M5 B5 B59
      have q1 : (kk.toList != kk.toList) = false := by simp
      obtain ⟨x0, x1, x2, x3⟩ := X9.out
      obtain ⟨z0, z1, z2, z3⟩ := Z9.out
      go_wp2_with fail
      refine Calls.mono (same_any _ _ PA w9 A9.out.1 A9.out.2 BAB.out.1) ?_
      rintro e wa ⟨rfl, ba⟩
      clear x0 x1 x2 x3 z0 z1 z2 z3
      obtain ⟨x0, x1, x2, x3⟩ := Y9.out.below ba
      obtain ⟨z0, z1, z2, z3⟩ := V9.out.below ba
      go_wp2_with fail
      refine Calls.mono (same_any _ _ PB wa (C9.out.1.below ba) (C9.out.2.below ba) BAB.out.2) ?_
      rintro e wb ⟨rfl, bb⟩
      clear x0 x1 x2 x3 z0 z1 z2 z3
      have BB : Hid (Below w9.heap.size w9 wb) := nextB ba bb
      clear ba bb A9 C9 X9 Y9 Z9 V9 BAB q1
      have LK : Hid (p.keys.length = mk) := (PW.out w9 (Below.refl _ _)).parts.2.1.slen
      have PL : Hid (∀ i, i ≤ mk → (∀ t, t < i → leS (kAt p.keys t) key = true) → (i < mk → leS (kAt p.keys i) key = false) → plS p.keys key = i) := fun i q1 q2 q3 => plS_is RS.out (by rw [LK.out]; exact q1) q2 (by rw [LK.out]; exact q3)
      have mk60 : mk ≤ 60 := by have := LK.out; have := SM'.out.keys; omega
      go_wp2_with fail
      go_loopg [14] mk (fun g iv wr => ∃ k : Nat, k ≤ mk ∧ g = mk - k ∧ iv = .int .i64 (k : Nat) ∧ Hid (∀ j, j < k → leS (kAt p.keys j) key = true) ∧ Hid (Below w9.heap.size w9 wr))
      case atStart => exact ⟨0, Nat.zero_le _, rfl, rfl, fun j hj => by omega, BB.out⟩
      case round =>
        clear BB
        obtain ⟨k, hkm, rfl, rfl, hR, hB⟩ := hrel
        obtain ⟨z0, z1, z2, z3, x0, x1, x2, x3⟩ := SS.out wr hB.out
        by_cases cc : k < mk ∧ leS (kAt p.keys k) key = true
        · obtain ⟨c, lt⟩ := cc
          have c' : (k : Int) < (mk : Int) := by omega
          have go : Hid (∀ j, j < k + 1 → leS (kAt p.keys j) key = true) := fun j hj => by
            rcases Nat.lt_or_ge j k with r | r
            · exact hR.out j r
            · obtain rfl : j = k := by omega
              exact lt
          have e0 : Sl wr ak mk ck (sv p.keys) := (PW.out wr hB.out).parts.2.1
          obtain ⟨bk, ob, rfl, _⟩ := e0.at (by omega)
          have e1 : wr.cell? ⟨bk, ob + k, none⟩ = some (.string (kAt p.keys k)) := e0.str c
          clear e0 hR
          cases l0 : ltS (kAt p.keys k) key with
          | true =>
            clear lt
            generalize kAt p.keys k = s at *
            have q1 : Op.bytesLess s.toList key.toList = true := l0
            clear l0
            go_wp2
            go_roundg (mk - (k + 1))
            case measure => omega
            case rel => exact ⟨k + 1, by omega, rfl, by go_num, go.out, hB.out⟩
          | false =>
            have e : kAt p.keys k = key := by unfold leS at lt; rw [l0, Bool.false_or] at lt; exact of_decide_eq_true lt
            rw [e] at e1 l0
            have q1 : Op.bytesLess key.toList key.toList = false := l0
            have q2 : (key.toList == key.toList) = true := by simp
            clear lt l0 e
            go_wp2
            go_roundg (mk - (k + 1))
            case measure => omega
            case rel => exact ⟨k + 1, by omega, rfl, by go_num, go.out, hB.out⟩
        · have NK : Hid (plS p.keys key = k) := PL.out k hkm hR.out (fun q => by cases r : leS (kAt p.keys k) key with | false => rfl | true => exact absurd ⟨q, r⟩ cc)
          clear PL hR
          go_upto_region 11 with fail
          go_cut [84] from 71 to 84 (fun s wx => s = .bool false ∧ wx = wr)
          case first =>
            by_cases c : k < mk
            · have c' : (k : Int) < (mk : Int) := by omega
              have e0 : Sl wr ak mk ck (sv p.keys) := (PW.out wr hB.out).parts.2.1
              obtain ⟨bk, ob, rfl, _⟩ := e0.at (by omega)
              have e1 : wr.cell? ⟨bk, ob + k, none⟩ = some (.string (kAt p.keys k)) := e0.str c
              have lt : leS (kAt p.keys k) key = false := by cases r : leS (kAt p.keys k) key with | false => rfl | true => exact absurd ⟨c, r⟩ cc
              have lt2 : ltS (kAt p.keys k) key = false ∧ decide (kAt p.keys k = key) = false := by unfold leS at lt; simpa using lt
              have q2 : ((kAt p.keys k).toList == key.toList) = false := by rw [toL_eq]; exact lt2.2
              have l0 := lt2.1
              clear e0 lt lt2 cc
              generalize kAt p.keys k = s at *
              have q1 : Op.bytesLess s.toList key.toList = false := l0
              clear l0
              go_wp2
              go_meet
              exact ⟨rfl, rfl⟩
            · have c' : ¬ (k : Int) < (mk : Int) := by omega
              clear cc
              go_wp2
              go_meet
              exact ⟨rfl, rfl⟩
          case rest =>
            obtain ⟨rfl, hwr⟩ := hcut
            obtain rfl : wr = wc := hwr.symm
            clear cc x0 x1 x2 x3 z0 z1 z2 z3
            cases hl : p.leaf with
            | false =>
              have HLf : Hid _ := hl
              rw [hl] at SS PP PW
              have KK : Hid (∀ W, Below w9.heap.size w9 W → Calls Try.prog 22 #[.agg #[.bool false, .slice ap mp cp, .slice dp np fp, .slice gp op hp], .string key] W fun e w' => e = .returned (.int .i64 (k : Nat)) ∧ Below W.heap.size W w') := fun W b => by
                have := Kid_branch _ p key W (PP.out W b) BDp.out RS.out hl
                rw [NK.out] at this
                exact this
              have KP : Hid (∀ W, Below w9.heap.size w9 W → Calls Try.prog 23 #[.agg #[.bool false, .slice ap mp cp, .slice dp np fp, .slice gp op hp], .string key, .string val] W fun e w' => NewP W w' e p) := fun W b => Put_branch _ p key val W (PP.out W b) BDp.out hl
              obtain ⟨z0, z1, z2, z3, x0, x1, x2, x3⟩ := SS.out wr hB.out
              clear hl
              go_upto_region 14 with fail
              clear x0 x1 x2 x3 z0 z1 z2 z3
              refine wp_region_held_drew (S := (fun W => Below w9.heap.size w9 W)) (by kernel_rfl) (nextB hB.out (Below.refl _ _).drew) (fun hHeld => ?_)
              have B0 : Hid (Below w9.heap.size w9 wr.drew) := nextB hB.out (Below.refl _ _).drew
              generalize wr.drew = wz at *
              refine take2 rfl (i := 0) (v := (.agg #[.bool false, .slice ap mp cp, .slice dp np fp, .slice gp op hp])) (d := 90) rfl rfl (by kernel_rfl) (by kernel_rfl) (by kernel_rfl) (fun _ _ _ h => h) (Or.inl ⟨by rfl, ?_⟩) hHeld ?_
              · (intro W hW; obtain ⟨_, _, _, _, _, _, _, _⟩ := SS.out W hW; go_simp)
              try simp only [Act.put, List.setIfInBounds_toArray, List.set_cons_zero, List.set_cons_succ]
              refine take2 rfl (i := 1) (v := .string key) (d := 91) rfl rfl (by kernel_rfl) (by kernel_rfl) (by kernel_rfl) (fun _ _ _ h => h) (Or.inl ⟨by rfl, ?_⟩) hHeld ?_
              · (intro W hW; (try dsimp only at hW); go_simp)
              try simp only [Act.put, List.setIfInBounds_toArray, List.set_cons_zero, List.set_cons_succ]
              refine take2 rfl (i := 3) (v := .int .i64 (k : Nat)) (d := 93) rfl rfl (by kernel_rfl) (by kernel_rfl) (by kernel_rfl) (fun _ _ _ h => h) (Or.inl ⟨by rfl, ?_⟩) hHeld ?_
              · (intro W hW; (try dsimp only at hW); go_simp)
              try simp only [Act.put, List.setIfInBounds_toArray, List.set_cons_zero, List.set_cons_succ]
              refine wpAnyH_ready (rs := [2]) (by kernel_rfl) (by simp) ?_
              refine cons2 rfl rfl (fun K9 hK => ?_)
              go_simp
              go_at_call 22
              refine Calls.mono (KK.out _ B0.out) ?_
              rintro e wc ⟨rfl, bc⟩
              have Bc : Hid (Below w9.heap.size w9 wc) := nextB B0.out bc
              go_wp2_with fail
              refine hK.out _ _ Bc.out (fun hX => ?_)
              clear hK K9 hHeld
              have hHeld := hX
              clear hX
              try simp only [Act.put, List.setIfInBounds_toArray, List.set_cons_zero, List.set_cons_succ]
              refine take2 rfl (i := 4) (v := .bool true) (d := 94) rfl rfl (by kernel_rfl) (by kernel_rfl) (by kernel_rfl) (fun _ _ _ h => h) (Or.inl ⟨by rfl, ?_⟩) hHeld ?_
              · (intro W hW; (try dsimp only at hW); go_simp)
              try simp only [Act.put, List.setIfInBounds_toArray, List.set_cons_zero, List.set_cons_succ]
              refine take2 rfl (i := 5) (v := .bool true) (d := 95) rfl rfl (by kernel_rfl) (by kernel_rfl) (by kernel_rfl) (fun _ _ _ h => h) (Or.inl ⟨by rfl, ?_⟩) hHeld ?_
              · (intro W hW; (try dsimp only at hW); go_simp)
              try simp only [Act.put, List.setIfInBounds_toArray, List.set_cons_zero, List.set_cons_succ]
              refine take2 rfl (i := 6) (v := (.agg #[.bool false, .slice ap mp cp, .slice dp np fp, .slice gp op hp])) (d := 96) rfl rfl (by kernel_rfl) (by kernel_rfl) (by kernel_rfl) (fun _ _ _ h => h) (Or.inl ⟨by rfl, ?_⟩) hHeld ?_
              · (intro W hW; obtain ⟨_, _, _, _, _, _, _, _⟩ := SS.out W hW; go_simp)
              try simp only [Act.put, List.setIfInBounds_toArray, List.set_cons_zero, List.set_cons_succ]
              refine take2 rfl (i := 7) (v := .string key) (d := 97) rfl rfl (by kernel_rfl) (by kernel_rfl) (by kernel_rfl) (fun _ _ _ h => h) (Or.inl ⟨by rfl, ?_⟩) hHeld ?_
              · (intro W hW; (try dsimp only at hW); go_simp)
              try simp only [Act.put, List.setIfInBounds_toArray, List.set_cons_zero, List.set_cons_succ]
              refine take2 rfl (i := 8) (v := .string val) (d := 98) rfl rfl (by kernel_rfl) (by kernel_rfl) (by kernel_rfl) (fun _ _ _ h => h) (Or.inl ⟨by rfl, ?_⟩) hHeld ?_
              · (intro W hW; (try dsimp only at hW); go_simp)
              try simp only [Act.put, List.setIfInBounds_toArray, List.set_cons_zero, List.set_cons_succ]
              refine take2 rfl (i := 10) (v := (.agg #[.bool false, .slice ak mk ck, .slice dk nk fk, .slice gk ok hk])) (d := 100) rfl rfl (by kernel_rfl) (by kernel_rfl) (by kernel_rfl) (fun _ _ _ h => h) (Or.inl ⟨by rfl, ?_⟩) hHeld ?_
              · (intro W hW; obtain ⟨_, _, _, _, _, _, _, _⟩ := SS.out W hW; go_simp)
              try simp only [Act.put, List.setIfInBounds_toArray, List.set_cons_zero, List.set_cons_succ]
              refine wpAnyH_ready (rs := [9]) (by kernel_rfl) (by simp) ?_
              refine cons2 rfl rfl (fun K9 hK => ?_)
              go_simp
              go_at_call 23
              refine Calls.mono (KP.out _ Bc.out) ?_
              rintro e wd ⟨⟨vd, rfl, Pd⟩, bd⟩
              have Bd : Hid (Below w9.heap.size w9 wd) := nextB Bc.out bd
              have Qd : Hid _ := Pd
              clear Pd
              go_wp2_with fail
              refine hK.out _ _ Bd.out (fun hX => ?_)
              clear hK K9 hHeld
              have hHeld := hX
              clear hX
              try simp only [Act.put, List.setIfInBounds_toArray, List.set_cons_zero, List.set_cons_succ]
              refine wpAnyH_ready (rs := [11]) (by kernel_rfl) (by simp) ?_
              refine cons2 rfl rfl (fun K9 hK => ?_)
              go_simp
              go_at_call 19
              refine Calls.mono (same_any _ _ p _ Qd.out (PW.out _ Bd.out) BDp.out) ?_
              rintro e we ⟨rfl, be⟩
              have Be : Hid (Below w9.heap.size w9 we) := nextB Bd.out be
              go_wp2_with fail
              refine hK.out _ _ Be.out (fun hX => ?_)
              clear hK K9 hHeld
              have hHeld := hX
              clear hX
              try simp only [Act.put, List.setIfInBounds_toArray, List.set_cons_zero, List.set_cons_succ]
              refine take2 rfl (i := 12) (v := .bool true) (d := 102) rfl rfl (by kernel_rfl) (by kernel_rfl) (by kernel_rfl) (fun _ _ _ h => h) (Or.inl ⟨by rfl, ?_⟩) hHeld ?_
              · (intro W hW; (try dsimp only at hW); go_simp)
              try simp only [Act.put, List.setIfInBounds_toArray, List.set_cons_zero, List.set_cons_succ]
              refine take2 rfl (i := 13) (v := .bool true) (d := 103) rfl rfl (by kernel_rfl) (by kernel_rfl) (by kernel_rfl) (fun _ _ _ h => h) (Or.inl ⟨by rfl, ?_⟩) hHeld ?_
              · (intro W hW; (try dsimp only at hW); go_simp)
              try simp only [Act.put, List.setIfInBounds_toArray, List.set_cons_zero, List.set_cons_succ]
              refine take2 rfl (i := 14) (v := (.agg #[.bool false, .slice ap mp cp, .slice dp np fp, .slice gp op hp])) (d := 104) rfl rfl (by kernel_rfl) (by kernel_rfl) (by kernel_rfl) (fun _ _ _ h => h) (Or.inl ⟨by rfl, ?_⟩) hHeld ?_
              · (intro W hW; obtain ⟨_, _, _, _, _, _, _, _⟩ := SS.out W hW; go_simp)
              try simp only [Act.put, List.setIfInBounds_toArray, List.set_cons_zero, List.set_cons_succ]
              refine take2 rfl (i := 15) (v := (.agg #[.bool false, .slice ak mk ck, .slice dk nk fk, .slice gk ok hk])) (d := 105) rfl rfl (by kernel_rfl) (by kernel_rfl) (by kernel_rfl) (fun _ _ _ h => h) (Or.inl ⟨by rfl, ?_⟩) hHeld ?_
              · (intro W hW; obtain ⟨_, _, _, _, _, _, _, _⟩ := SS.out W hW; go_simp)
              try simp only [Act.put, List.setIfInBounds_toArray, List.set_cons_zero, List.set_cons_succ]
              refine wpAnyH_ready (rs := [16]) (by kernel_rfl) (by simp) ?_
              refine cons2 rfl rfl (fun K9 hK => ?_)
              go_simp
              go_at_call 19
              refine Calls.mono (same_any _ _ p _ (PP.out _ Be.out) (PW.out _ Be.out) BDp.out) ?_
              rintro e wf ⟨rfl, bf⟩
              have Bf : Hid (Below w9.heap.size w9 wf) := nextB Be.out bf
              go_wp2_with fail
              refine hK.out _ _ Bf.out (fun hX => ?_)
              clear hK K9 hHeld
              have hHeld := hX
              clear hX
              try simp only [Act.put, List.setIfInBounds_toArray, List.set_cons_zero, List.set_cons_succ]
              refine take2 rfl (i := 17) (v := .bool true) (d := 107) rfl rfl (by kernel_rfl) (by kernel_rfl) (by kernel_rfl) (fun _ _ _ h => h) (Or.inl ⟨by rfl, ?_⟩) hHeld ?_
              · (intro W hW; (try dsimp only at hW); go_simp)
              try simp only [Act.put, List.setIfInBounds_toArray, List.set_cons_zero, List.set_cons_succ]
              refine take2 rfl (i := 18) (v := .bool true) (d := 6) rfl rfl (by kernel_rfl) (by kernel_rfl) (by kernel_rfl) (fun _ _ _ h => h) (Or.inl ⟨by rfl, ?_⟩) hHeld ?_
              · (intro W hW; (try dsimp only at hW); go_simp)
              try simp only [Act.put, List.setIfInBounds_toArray, List.set_cons_zero, List.set_cons_succ]
              refine wpAnyH_done (by kernel_rfl) ?_ _
              go_wp2
              exact bodyPost_ret (v := .bool true) (by simp [results, Try.results6, go_sem]) rfl ⟨rfl, nextB BW9.out Bf.out⟩
            | true =>
              have HLf : Hid _ := hl
              rw [hl] at SS PP PW
              have ev : Hid _ := goodB_leaf GD.out hl
              have KK : Hid (∀ W, Below w9.heap.size w9 W → Calls Try.prog 22 #[.agg #[.bool true, .slice ap mp cp, .slice dp np fp, .slice gp op hp], .string key] W fun e w' => e = .returned (.int .i64 0) ∧ Below W.heap.size W w') := fun W b => Kid_leaf _ p key W (PP.out W b) hl
              have KP : Hid (∀ W, Below w9.heap.size w9 W → Calls Try.prog 23 #[.agg #[.bool true, .slice ap mp cp, .slice dp np fp, .slice gp op hp], .string key, .string val] W fun e w' => NewP W w' e (putP p key val)) := fun W b => Put_leaf _ p key val W (PP.out W b) FT.out RS.out hl
              have KQ : Hid (∀ W, Below w9.heap.size w9 W → Calls Try.prog 25 #[.agg #[.bool true, .slice ak mk ck, .slice dk nk fk, .slice gk ok hk], .string key, .string val] W fun e w' => NewP W w' e (putP p key val)) := fun W b => kPutLeaf_any _ p key val W (PW.out W b) BDp.out RS.out hl ev.out.1 ev.out.2
              have KD : Hid (∀ W, Below w9.heap.size w9 W → Calls Try.prog 26 #[.agg #[.bool true, .slice ap mp cp, .slice dp np fp, .slice gp op hp], .string key] W fun e w' => NewP W w' e (dropP p key)) := fun W b => Drop_leaf _ p key W (PP.out W b) FT.out RS.out hl
              have KE : Hid (∀ W, Below w9.heap.size w9 W → Calls Try.prog 27 #[.agg #[.bool true, .slice ak mk ck, .slice dk nk fk, .slice gk ok hk], .string key] W fun e w' => NewP W w' e (dropP p key)) := fun W b => kDropLeaf_any _ p key W (PW.out W b) BDp.out RS.out hl ev.out.1 ev.out.2
              have BDu : Hid _ := putP_bd SM'.out ev.out.1 key val (by omega) (by omega)
              have BDd : Hid _ := dropP_bd SM'.out BDp.out ev.out.1 key
              have KF : Hid _ := Find_leaf _ p key wr (PP.out wr hB.out) BDp.out RS.out hl
              have PF := plS_found (ks := p.keys) (x := key)
              have NP : plS p.keys key = posS p.keys key + (if fnd p.keys key then 1 else 0) := rfl
              rw [NK.out] at PF NP
              have PB0 : fnd p.keys key = true → posS p.keys key < mk ∧ kAt p.keys (posS p.keys key) = key := fun q => by have t := fnd_true q; have := LK.out; exact ⟨by omega, t.2⟩
              generalize putP p key val = PU at *
              generalize dropP p key = PD at *
              generalize posS p.keys key = P at *
              generalize fnd p.keys key = F at *
              obtain ⟨z0, z1, z2, z3, x0, x1, x2, x3⟩ := SS.out wr hB.out
              have HNP : Hid _ := NP
              have HPF : Hid _ := PF
              have HPB : Hid _ := PB0
              clear hl NP PF PB0
              go_wp2_with fail
              refine Calls.mono KF.out ?_
              rintro e wg ⟨rfl, bg⟩
              clear x0 x1 x2 x3 z0 z1 z2 z3 KF
              have BG : Hid (Below w9.heap.size w9 wg) := nextB hB.out bg
              clear bg hB
              obtain ⟨z0, z1, z2, z3, x0, x1, x2, x3⟩ := SS.out wg BG.out
              have e0 : Hid (Sl wg ak mk ck (sv p.keys)) := (PW.out wg BG.out).parts.2.1
              have NP := HNP.out
              have PF := HPF.out
              have PB0 := HPB.out
              clear HNP HPF HPB
              cases F with
              | true =>
                have hN : k = P + 1 := by simpa using NP
                have PK : Hid _ := PB0 rfl
                obtain ⟨bk, ob, rfl, _⟩ := e0.out.at (by have := PK.out; omega)
                have e1 : wg.cell? ⟨bk, ob + P, none⟩ = some (.string key) := by
                  have := e0.out.str (i := P) PK.out.1
                  rw [← PK.out.2]
                  exact this
                have cN : (0 : Int) < (k : Int) := by omega
                have dN : (k : Int) - 1 = (P : Int) := by omega
                have dN' : 0 < k := by omega
                have pk : (P : Int) < (mk : Int) := by have := PK.out; omega
                have q2 : (key.toList == key.toList) = true := by simp
                clear PF NP PB0 e0 hN NK LK
                go_upto_region 19 with fail
                clear x0 x1 x2 x3 z0 z1 z2 z3 e1 q2
                refine wp_region_held_drew (S := (fun W => Below w9.heap.size w9 W)) (by kernel_rfl) (nextB BG.out (Below.refl _ _).drew) (fun hHeld => ?_)
                have B0 : Hid (Below w9.heap.size w9 wg.drew) := nextB BG.out (Below.refl _ _).drew
                generalize wg.drew = wz at *
                refine take2 rfl (i := 0) (v := .int .i64 (P : Nat)) (d := 129) rfl rfl (by kernel_rfl) (by kernel_rfl) (by kernel_rfl) (fun _ _ _ h => h) (Or.inl ⟨by rfl, ?_⟩) hHeld ?_
                · (intro W hW; (try dsimp only at hW); go_simp)
                try simp only [Act.put, List.setIfInBounds_toArray, List.set_cons_zero, List.set_cons_succ]
                refine take2 rfl (i := 1) (v := .int .i64 (P : Nat)) (d := 130) rfl rfl (by kernel_rfl) (by kernel_rfl) (by kernel_rfl) (fun _ _ _ h => h) (Or.inl ⟨by rfl, ?_⟩) hHeld ?_
                · (intro W hW; (try dsimp only at hW); go_simp)
                try simp only [Act.put, List.setIfInBounds_toArray, List.set_cons_zero, List.set_cons_succ]
                refine take2 rfl (i := 2) (v := .bool true) (d := 131) rfl rfl (by kernel_rfl) (by kernel_rfl) (by kernel_rfl) (fun _ _ _ h => h) (Or.inl ⟨by rfl, ?_⟩) hHeld ?_
                · (intro W hW; (try dsimp only at hW); go_simp)
                try simp only [Act.put, List.setIfInBounds_toArray, List.set_cons_zero, List.set_cons_succ]
                refine take2 rfl (i := 3) (v := .bool true) (d := 132) rfl rfl (by kernel_rfl) (by kernel_rfl) (by kernel_rfl) (fun _ _ _ h => h) (Or.inl ⟨by rfl, ?_⟩) hHeld ?_
                · (intro W hW; (try dsimp only at hW); go_simp)
                try simp only [Act.put, List.setIfInBounds_toArray, List.set_cons_zero, List.set_cons_succ]
                refine take2 rfl (i := 4) (v := .bool true) (d := 133) rfl rfl (by kernel_rfl) (by kernel_rfl) (by kernel_rfl) (fun _ _ _ h => h) (Or.inl ⟨by rfl, ?_⟩) hHeld ?_
                · (intro W hW; (try dsimp only at hW); go_simp)
                try simp only [Act.put, List.setIfInBounds_toArray, List.set_cons_zero, List.set_cons_succ]
                refine take2 rfl (i := 5) (v := .bool true) (d := 134) rfl rfl (by kernel_rfl) (by kernel_rfl) (by kernel_rfl) (fun _ _ _ h => h) (Or.inl ⟨by rfl, ?_⟩) hHeld ?_
                · (intro W hW; (try dsimp only at hW); go_simp)
                try simp only [Act.put, List.setIfInBounds_toArray, List.set_cons_zero, List.set_cons_succ]
                refine take2 rfl (i := 6) (v := .bool true) (d := 135) rfl rfl (by kernel_rfl) (by kernel_rfl) (by kernel_rfl) (fun _ _ _ h => h) (Or.inl ⟨by rfl, ?_⟩) hHeld ?_
                · (intro W hW; (try dsimp only at hW); go_simp)
                try simp only [Act.put, List.setIfInBounds_toArray, List.set_cons_zero, List.set_cons_succ]
                refine take2 rfl (i := 7) (v := .bool true) (d := 136) rfl rfl (by kernel_rfl) (by kernel_rfl) (by kernel_rfl) (fun _ _ _ h => h) (Or.inl ⟨by rfl, ?_⟩) hHeld ?_
                · (intro W hW; (try dsimp only at hW); go_simp)
                try simp only [Act.put, List.setIfInBounds_toArray, List.set_cons_zero, List.set_cons_succ]
                refine take2 rfl (i := 8) (v := .bool true) (d := 137) rfl rfl (by kernel_rfl) (by kernel_rfl) (by kernel_rfl) (fun _ _ _ h => h) (Or.inl ⟨by rfl, ?_⟩) hHeld ?_
                · (intro W hW; (try dsimp only at hW); go_simp)
                try simp only [Act.put, List.setIfInBounds_toArray, List.set_cons_zero, List.set_cons_succ]
                refine take2 rfl (i := 9) (v := (.agg #[.bool true, .slice ap mp cp, .slice dp np fp, .slice gp op hp])) (d := 138) rfl rfl (by kernel_rfl) (by kernel_rfl) (by kernel_rfl) (fun _ _ _ h => h) (Or.inl ⟨by rfl, ?_⟩) hHeld ?_
                · (intro W hW; obtain ⟨_, _, _, _, _, _, _, _⟩ := SS.out W hW; go_simp)
                try simp only [Act.put, List.setIfInBounds_toArray, List.set_cons_zero, List.set_cons_succ]
                refine take2 rfl (i := 10) (v := .string key) (d := 139) rfl rfl (by kernel_rfl) (by kernel_rfl) (by kernel_rfl) (fun _ _ _ h => h) (Or.inl ⟨by rfl, ?_⟩) hHeld ?_
                · (intro W hW; (try dsimp only at hW); go_simp)
                try simp only [Act.put, List.setIfInBounds_toArray, List.set_cons_zero, List.set_cons_succ]
                refine wpAnyH_ready (rs := [11]) (by kernel_rfl) (by simp) ?_
                refine cons2 rfl rfl (fun K9 hK => ?_)
                go_simp
                go_at_call 22
                refine Calls.mono (KK.out _ B0.out) ?_
                rintro e wc ⟨rfl, bc⟩
                have Bc : Hid (Below w9.heap.size w9 wc) := nextB B0.out bc
                go_wp2_with fail
                refine hK.out _ _ Bc.out (fun hX => ?_)
                clear hK K9 hHeld
                have hHeld := hX
                clear hX
                try simp only [Act.put, List.setIfInBounds_toArray, List.set_cons_zero, List.set_cons_succ]
                refine take2 rfl (i := 12) (v := .bool true) (d := 141) rfl rfl (by kernel_rfl) (by kernel_rfl) (by kernel_rfl) (fun _ _ _ h => h) (Or.inl ⟨by rfl, ?_⟩) hHeld ?_
                · (intro W hW; (try dsimp only at hW); go_simp)
                try simp only [Act.put, List.setIfInBounds_toArray, List.set_cons_zero, List.set_cons_succ]
                refine take2 rfl (i := 13) (v := .bool true) (d := 142) rfl rfl (by kernel_rfl) (by kernel_rfl) (by kernel_rfl) (fun _ _ _ h => h) (Or.inl ⟨by rfl, ?_⟩) hHeld ?_
                · (intro W hW; (try dsimp only at hW); go_simp)
                try simp only [Act.put, List.setIfInBounds_toArray, List.set_cons_zero, List.set_cons_succ]
                refine take2 rfl (i := 14) (v := .bool true) (d := 143) rfl rfl (by kernel_rfl) (by kernel_rfl) (by kernel_rfl) (fun _ _ _ h => h) (Or.inl ⟨by rfl, ?_⟩) hHeld ?_
                · (intro W hW; (try dsimp only at hW); go_simp)
                try simp only [Act.put, List.setIfInBounds_toArray, List.set_cons_zero, List.set_cons_succ]
                refine take2 rfl (i := 15) (v := (.agg #[.bool true, .slice ap mp cp, .slice dp np fp, .slice gp op hp])) (d := 144) rfl rfl (by kernel_rfl) (by kernel_rfl) (by kernel_rfl) (fun _ _ _ h => h) (Or.inl ⟨by rfl, ?_⟩) hHeld ?_
                · (intro W hW; obtain ⟨_, _, _, _, _, _, _, _⟩ := SS.out W hW; go_simp)
                try simp only [Act.put, List.setIfInBounds_toArray, List.set_cons_zero, List.set_cons_succ]
                refine take2 rfl (i := 16) (v := .string key) (d := 145) rfl rfl (by kernel_rfl) (by kernel_rfl) (by kernel_rfl) (fun _ _ _ h => h) (Or.inl ⟨by rfl, ?_⟩) hHeld ?_
                · (intro W hW; (try dsimp only at hW); go_simp)
                try simp only [Act.put, List.setIfInBounds_toArray, List.set_cons_zero, List.set_cons_succ]
                refine take2 rfl (i := 17) (v := .string val) (d := 146) rfl rfl (by kernel_rfl) (by kernel_rfl) (by kernel_rfl) (fun _ _ _ h => h) (Or.inl ⟨by rfl, ?_⟩) hHeld ?_
                · (intro W hW; (try dsimp only at hW); go_simp)
                try simp only [Act.put, List.setIfInBounds_toArray, List.set_cons_zero, List.set_cons_succ]
                refine take2 rfl (i := 19) (v := (.agg #[.bool true, .slice (some ⟨bk, ob, none⟩) mk ck, .slice dk nk fk, .slice gk ok hk])) (d := 148) rfl rfl (by kernel_rfl) (by kernel_rfl) (by kernel_rfl) (fun _ _ _ h => h) (Or.inl ⟨by rfl, ?_⟩) hHeld ?_
                · (intro W hW; obtain ⟨_, _, _, _, _, _, _, _⟩ := SS.out W hW; go_simp)
                try simp only [Act.put, List.setIfInBounds_toArray, List.set_cons_zero, List.set_cons_succ]
                refine take2 rfl (i := 20) (v := .string key) (d := 149) rfl rfl (by kernel_rfl) (by kernel_rfl) (by kernel_rfl) (fun _ _ _ h => h) (Or.inl ⟨by rfl, ?_⟩) hHeld ?_
                · (intro W hW; (try dsimp only at hW); go_simp)
                try simp only [Act.put, List.setIfInBounds_toArray, List.set_cons_zero, List.set_cons_succ]
                refine take2 rfl (i := 21) (v := .string val) (d := 150) rfl rfl (by kernel_rfl) (by kernel_rfl) (by kernel_rfl) (fun _ _ _ h => h) (Or.inl ⟨by rfl, ?_⟩) hHeld ?_
                · (intro W hW; (try dsimp only at hW); go_simp)
                try simp only [Act.put, List.setIfInBounds_toArray, List.set_cons_zero, List.set_cons_succ]
                refine wpAnyH_ready (rs := [18]) (by kernel_rfl) (by simp) ?_
                refine cons2 rfl rfl (fun K9 hK => ?_)
                go_simp
                go_at_call 23
                refine Calls.mono (KP.out _ Bc.out) ?_
                rintro e wd ⟨⟨vd, rfl, Pd⟩, bd⟩
                have Bd : Hid (Below w9.heap.size w9 wd) := nextB Bc.out bd
                have Qd : Hid _ := Pd
                clear Pd
                go_wp2_with fail
                refine hK.out _ _ Bd.out (fun hX => ?_)
                clear hK K9 hHeld
                have hHeld := hX
                clear hX
                try simp only [Act.put, List.setIfInBounds_toArray, List.set_cons_zero, List.set_cons_succ]
                refine wpAnyH_ready (rs := [22]) (by kernel_rfl) (by simp) ?_
                refine cons2 rfl rfl (fun K9 hK => ?_)
                go_simp
                go_at_call 25
                refine Calls.mono (KQ.out _ Bd.out) ?_
                rintro e we ⟨⟨ve, rfl, Pe⟩, be⟩
                have Be : Hid (Below w9.heap.size w9 we) := nextB Bd.out be
                have Qe : Hid _ := And.intro (Qd.out.below be) Pe
                clear Pe
                go_wp2_with fail
                refine hK.out _ _ Be.out (fun hX => ?_)
                clear hK K9 hHeld
                have hHeld := hX
                clear hX
                try simp only [Act.put, List.setIfInBounds_toArray, List.set_cons_zero, List.set_cons_succ]
                refine wpAnyH_ready (rs := [23]) (by kernel_rfl) (by simp) ?_
                refine cons2 rfl rfl (fun K9 hK => ?_)
                go_simp
                go_at_call 19
                refine Calls.mono (same_any _ _ _ _ Qe.out.1 Qe.out.2 BDu.out) ?_
                rintro e wf ⟨rfl, bf⟩
                have Bf : Hid (Below w9.heap.size w9 wf) := nextB Be.out bf
                go_wp2_with fail
                refine hK.out _ _ Bf.out (fun hX => ?_)
                clear hK K9 hHeld
                have hHeld := hX
                clear hX
                try simp only [Act.put, List.setIfInBounds_toArray, List.set_cons_zero, List.set_cons_succ]
                refine take2 rfl (i := 24) (v := .bool true) (d := 153) rfl rfl (by kernel_rfl) (by kernel_rfl) (by kernel_rfl) (fun _ _ _ h => h) (Or.inl ⟨by rfl, ?_⟩) hHeld ?_
                · (intro W hW; (try dsimp only at hW); go_simp)
                try simp only [Act.put, List.setIfInBounds_toArray, List.set_cons_zero, List.set_cons_succ]
                refine take2 rfl (i := 25) (v := .bool true) (d := 154) rfl rfl (by kernel_rfl) (by kernel_rfl) (by kernel_rfl) (fun _ _ _ h => h) (Or.inl ⟨by rfl, ?_⟩) hHeld ?_
                · (intro W hW; (try dsimp only at hW); go_simp)
                try simp only [Act.put, List.setIfInBounds_toArray, List.set_cons_zero, List.set_cons_succ]
                refine take2 rfl (i := 26) (v := (.agg #[.bool true, .slice ap mp cp, .slice dp np fp, .slice gp op hp])) (d := 155) rfl rfl (by kernel_rfl) (by kernel_rfl) (by kernel_rfl) (fun _ _ _ h => h) (Or.inl ⟨by rfl, ?_⟩) hHeld ?_
                · (intro W hW; obtain ⟨_, _, _, _, _, _, _, _⟩ := SS.out W hW; go_simp)
                try simp only [Act.put, List.setIfInBounds_toArray, List.set_cons_zero, List.set_cons_succ]
                refine take2 rfl (i := 27) (v := .string key) (d := 156) rfl rfl (by kernel_rfl) (by kernel_rfl) (by kernel_rfl) (fun _ _ _ h => h) (Or.inl ⟨by rfl, ?_⟩) hHeld ?_
                · (intro W hW; (try dsimp only at hW); go_simp)
                try simp only [Act.put, List.setIfInBounds_toArray, List.set_cons_zero, List.set_cons_succ]
                refine take2 rfl (i := 29) (v := (.agg #[.bool true, .slice (some ⟨bk, ob, none⟩) mk ck, .slice dk nk fk, .slice gk ok hk])) (d := 158) rfl rfl (by kernel_rfl) (by kernel_rfl) (by kernel_rfl) (fun _ _ _ h => h) (Or.inl ⟨by rfl, ?_⟩) hHeld ?_
                · (intro W hW; obtain ⟨_, _, _, _, _, _, _, _⟩ := SS.out W hW; go_simp)
                try simp only [Act.put, List.setIfInBounds_toArray, List.set_cons_zero, List.set_cons_succ]
                refine take2 rfl (i := 30) (v := .string key) (d := 159) rfl rfl (by kernel_rfl) (by kernel_rfl) (by kernel_rfl) (fun _ _ _ h => h) (Or.inl ⟨by rfl, ?_⟩) hHeld ?_
                · (intro W hW; (try dsimp only at hW); go_simp)
                try simp only [Act.put, List.setIfInBounds_toArray, List.set_cons_zero, List.set_cons_succ]
                refine wpAnyH_ready (rs := [28]) (by kernel_rfl) (by simp) ?_
                refine cons2 rfl rfl (fun K9 hK => ?_)
                go_simp
                go_at_call 26
                refine Calls.mono (KD.out _ Bf.out) ?_
                rintro e wh ⟨⟨vh, rfl, Ph⟩, bh⟩
                have Bh : Hid (Below w9.heap.size w9 wh) := nextB Bf.out bh
                have Qh : Hid _ := Ph
                clear Ph
                go_wp2_with fail
                refine hK.out _ _ Bh.out (fun hX => ?_)
                clear hK K9 hHeld
                have hHeld := hX
                clear hX
                try simp only [Act.put, List.setIfInBounds_toArray, List.set_cons_zero, List.set_cons_succ]
                refine wpAnyH_ready (rs := [31]) (by kernel_rfl) (by simp) ?_
                refine cons2 rfl rfl (fun K9 hK => ?_)
                go_simp
                go_at_call 27
                refine Calls.mono (KE.out _ Bh.out) ?_
                rintro e wi ⟨⟨vi, rfl, Pi⟩, bi⟩
                have Bi : Hid (Below w9.heap.size w9 wi) := nextB Bh.out bi
                have Qi : Hid _ := And.intro (Qh.out.below bi) Pi
                clear Pi
                go_wp2_with fail
                refine hK.out _ _ Bi.out (fun hX => ?_)
                clear hK K9 hHeld
                have hHeld := hX
                clear hX
                try simp only [Act.put, List.setIfInBounds_toArray, List.set_cons_zero, List.set_cons_succ]
                refine wpAnyH_ready (rs := [32]) (by kernel_rfl) (by simp) ?_
                refine cons2 rfl rfl (fun K9 hK => ?_)
                go_simp
                go_at_call 19
                refine Calls.mono (same_any _ _ _ _ Qi.out.1 Qi.out.2 BDd.out) ?_
                rintro e wj ⟨rfl, bj⟩
                have Bj : Hid (Below w9.heap.size w9 wj) := nextB Bi.out bj
                go_wp2_with fail
                refine hK.out _ _ Bj.out (fun hX => ?_)
                clear hK K9 hHeld
                have hHeld := hX
                clear hX
                try simp only [Act.put, List.setIfInBounds_toArray, List.set_cons_zero, List.set_cons_succ]
                refine take2 rfl (i := 33) (v := .bool true) (d := 162) rfl rfl (by kernel_rfl) (by kernel_rfl) (by kernel_rfl) (fun _ _ _ h => h) (Or.inl ⟨by rfl, ?_⟩) hHeld ?_
                · (intro W hW; (try dsimp only at hW); go_simp)
                try simp only [Act.put, List.setIfInBounds_toArray, List.set_cons_zero, List.set_cons_succ]
                refine take2 rfl (i := 34) (v := .bool true) (d := 163) rfl rfl (by kernel_rfl) (by kernel_rfl) (by kernel_rfl) (fun _ _ _ h => h) (Or.inl ⟨by rfl, ?_⟩) hHeld ?_
                · (intro W hW; (try dsimp only at hW); go_simp)
                try simp only [Act.put, List.setIfInBounds_toArray, List.set_cons_zero, List.set_cons_succ]
                refine take2 rfl (i := 35) (v := (.agg #[.bool true, .slice ap mp cp, .slice dp np fp, .slice gp op hp])) (d := 164) rfl rfl (by kernel_rfl) (by kernel_rfl) (by kernel_rfl) (fun _ _ _ h => h) (Or.inl ⟨by rfl, ?_⟩) hHeld ?_
                · (intro W hW; obtain ⟨_, _, _, _, _, _, _, _⟩ := SS.out W hW; go_simp)
                try simp only [Act.put, List.setIfInBounds_toArray, List.set_cons_zero, List.set_cons_succ]
                refine take2 rfl (i := 36) (v := (.agg #[.bool true, .slice (some ⟨bk, ob, none⟩) mk ck, .slice dk nk fk, .slice gk ok hk])) (d := 165) rfl rfl (by kernel_rfl) (by kernel_rfl) (by kernel_rfl) (fun _ _ _ h => h) (Or.inl ⟨by rfl, ?_⟩) hHeld ?_
                · (intro W hW; obtain ⟨_, _, _, _, _, _, _, _⟩ := SS.out W hW; go_simp)
                try simp only [Act.put, List.setIfInBounds_toArray, List.set_cons_zero, List.set_cons_succ]
                refine wpAnyH_ready (rs := [37]) (by kernel_rfl) (by simp) ?_
                refine cons2 rfl rfl (fun K9 hK => ?_)
                go_simp
                go_at_call 19
                refine Calls.mono (same_any _ _ p _ (PP.out _ Bj.out) (PW.out _ Bj.out) BDp.out) ?_
                rintro e wl ⟨rfl, bl⟩
                have Bl : Hid (Below w9.heap.size w9 wl) := nextB Bj.out bl
                go_wp2_with fail
                refine hK.out _ _ Bl.out (fun hX => ?_)
                clear hK K9 hHeld
                have hHeld := hX
                clear hX
                try simp only [Act.put, List.setIfInBounds_toArray, List.set_cons_zero, List.set_cons_succ]
                refine take2 rfl (i := 38) (v := .bool true) (d := 167) rfl rfl (by kernel_rfl) (by kernel_rfl) (by kernel_rfl) (fun _ _ _ h => h) (Or.inl ⟨by rfl, ?_⟩) hHeld ?_
                · (intro W hW; (try dsimp only at hW); go_simp)
                try simp only [Act.put, List.setIfInBounds_toArray, List.set_cons_zero, List.set_cons_succ]
                refine take2 rfl (i := 39) (v := .bool true) (d := 6) rfl rfl (by kernel_rfl) (by kernel_rfl) (by kernel_rfl) (fun _ _ _ h => h) (Or.inl ⟨by rfl, ?_⟩) hHeld ?_
                · (intro W hW; (try dsimp only at hW); go_simp)
                try simp only [Act.put, List.setIfInBounds_toArray, List.set_cons_zero, List.set_cons_succ]
                refine wpAnyH_done (by kernel_rfl) ?_ _
                go_wp2
                exact bodyPost_ret (v := .bool true) (by simp [results, Try.results6, go_sem]) rfl ⟨rfl, nextB BW9.out Bl.out⟩
              | false =>
                obtain rfl : P = k := by simpa using NP.symm
                clear NP PB0 NK
                by_cases c0 : P = 0
                · have c0' : ¬ (0 : Int) < (P : Int) := by omega
                  have c0n : ¬ 0 < P := by omega
                  have C0 : Hid _ := c0
                  clear PF c0 e0
                  go_upto_region 19 with fail
                  clear x0 x1 x2 x3 z0 z1 z2 z3
                  refine wp_region_held_drew (S := (fun W => Below w9.heap.size w9 W)) (by kernel_rfl) (nextB BG.out (Below.refl _ _).drew) (fun hHeld => ?_)
                  have B0 : Hid (Below w9.heap.size w9 wg.drew) := nextB BG.out (Below.refl _ _).drew
                  generalize wg.drew = wz at *
                  refine take2 rfl (i := 0) (v := .int .i64 (P : Nat)) (d := 129) rfl rfl (by kernel_rfl) (by kernel_rfl) (by kernel_rfl) (fun _ _ _ h => h) (Or.inl ⟨by rfl, ?_⟩) hHeld ?_
                  · (intro W hW; (try dsimp only at hW); go_simp)
                  try simp only [Act.put, List.setIfInBounds_toArray, List.set_cons_zero, List.set_cons_succ]
                  refine take2 rfl (i := 1) (v := .int .i64 (P : Nat)) (d := 130) rfl rfl (by kernel_rfl) (by kernel_rfl) (by kernel_rfl) (fun _ _ _ h => h) (Or.inl ⟨by rfl, ?_⟩) hHeld ?_
                  · (intro W hW; (try dsimp only at hW); go_simp)
                  try simp only [Act.put, List.setIfInBounds_toArray, List.set_cons_zero, List.set_cons_succ]
                  refine take2 rfl (i := 2) (v := .bool true) (d := 131) rfl rfl (by kernel_rfl) (by kernel_rfl) (by kernel_rfl) (fun _ _ _ h => h) (Or.inl ⟨by rfl, ?_⟩) hHeld ?_
                  · (intro W hW; (try dsimp only at hW); go_simp)
                  try simp only [Act.put, List.setIfInBounds_toArray, List.set_cons_zero, List.set_cons_succ]
                  refine take2 rfl (i := 3) (v := .bool true) (d := 132) rfl rfl (by kernel_rfl) (by kernel_rfl) (by kernel_rfl) (fun _ _ _ h => h) (Or.inl ⟨by rfl, ?_⟩) hHeld ?_
                  · (intro W hW; (try dsimp only at hW); go_simp)
                  try simp only [Act.put, List.setIfInBounds_toArray, List.set_cons_zero, List.set_cons_succ]
                  refine take2 rfl (i := 4) (v := .bool false) (d := 133) rfl rfl (by kernel_rfl) (by kernel_rfl) (by kernel_rfl) (fun _ _ _ h => h) (Or.inl ⟨by rfl, ?_⟩) hHeld ?_
                  · (intro W hW; (try dsimp only at hW); go_simp)
                  try simp only [Act.put, List.setIfInBounds_toArray, List.set_cons_zero, List.set_cons_succ]
                  refine take2 rfl (i := 5) (v := .bool false) (d := 134) rfl rfl (by kernel_rfl) (by kernel_rfl) (by kernel_rfl) (fun _ _ _ h => h) (Or.inl ⟨by rfl, ?_⟩) hHeld ?_
                  · (intro W hW; (try dsimp only at hW); go_simp)
                  try simp only [Act.put, List.setIfInBounds_toArray, List.set_cons_zero, List.set_cons_succ]
                  refine take2 rfl (i := 6) (v := .bool true) (d := 135) rfl rfl (by kernel_rfl) (by kernel_rfl) (by kernel_rfl) (fun _ _ _ h => h) (Or.inl ⟨by rfl, ?_⟩) hHeld ?_
                  · (intro W hW; (try dsimp only at hW); go_simp)
                  try simp only [Act.put, List.setIfInBounds_toArray, List.set_cons_zero, List.set_cons_succ]
                  refine take2 rfl (i := 7) (v := .bool true) (d := 136) rfl rfl (by kernel_rfl) (by kernel_rfl) (by kernel_rfl) (fun _ _ _ h => h) (Or.inl ⟨by rfl, ?_⟩) hHeld ?_
                  · (intro W hW; (try dsimp only at hW); go_simp)
                  try simp only [Act.put, List.setIfInBounds_toArray, List.set_cons_zero, List.set_cons_succ]
                  refine take2 rfl (i := 8) (v := .bool true) (d := 137) rfl rfl (by kernel_rfl) (by kernel_rfl) (by kernel_rfl) (fun _ _ _ h => h) (Or.inl ⟨by rfl, ?_⟩) hHeld ?_
                  · (intro W hW; (try dsimp only at hW); go_simp)
                  try simp only [Act.put, List.setIfInBounds_toArray, List.set_cons_zero, List.set_cons_succ]
                  refine take2 rfl (i := 9) (v := (.agg #[.bool true, .slice ap mp cp, .slice dp np fp, .slice gp op hp])) (d := 138) rfl rfl (by kernel_rfl) (by kernel_rfl) (by kernel_rfl) (fun _ _ _ h => h) (Or.inl ⟨by rfl, ?_⟩) hHeld ?_
                  · (intro W hW; obtain ⟨_, _, _, _, _, _, _, _⟩ := SS.out W hW; go_simp)
                  try simp only [Act.put, List.setIfInBounds_toArray, List.set_cons_zero, List.set_cons_succ]
                  refine take2 rfl (i := 10) (v := .string key) (d := 139) rfl rfl (by kernel_rfl) (by kernel_rfl) (by kernel_rfl) (fun _ _ _ h => h) (Or.inl ⟨by rfl, ?_⟩) hHeld ?_
                  · (intro W hW; (try dsimp only at hW); go_simp)
                  try simp only [Act.put, List.setIfInBounds_toArray, List.set_cons_zero, List.set_cons_succ]
                  refine wpAnyH_ready (rs := [11]) (by kernel_rfl) (by simp) ?_
                  refine cons2 rfl rfl (fun K9 hK => ?_)
                  go_simp
                  go_at_call 22
                  refine Calls.mono (KK.out _ B0.out) ?_
                  rintro e wc ⟨rfl, bc⟩
                  have Bc : Hid (Below w9.heap.size w9 wc) := nextB B0.out bc
                  go_wp2_with fail
                  refine hK.out _ _ Bc.out (fun hX => ?_)
                  clear hK K9 hHeld
                  have hHeld := hX
                  clear hX
                  try simp only [Act.put, List.setIfInBounds_toArray, List.set_cons_zero, List.set_cons_succ]
                  refine take2 rfl (i := 12) (v := .bool true) (d := 141) rfl rfl (by kernel_rfl) (by kernel_rfl) (by kernel_rfl) (fun _ _ _ h => h) (Or.inl ⟨by rfl, ?_⟩) hHeld ?_
                  · (intro W hW; (try dsimp only at hW); go_simp)
                  try simp only [Act.put, List.setIfInBounds_toArray, List.set_cons_zero, List.set_cons_succ]
                  refine take2 rfl (i := 13) (v := .bool true) (d := 142) rfl rfl (by kernel_rfl) (by kernel_rfl) (by kernel_rfl) (fun _ _ _ h => h) (Or.inl ⟨by rfl, ?_⟩) hHeld ?_
                  · (intro W hW; (try dsimp only at hW); go_simp)
                  try simp only [Act.put, List.setIfInBounds_toArray, List.set_cons_zero, List.set_cons_succ]
                  refine take2 rfl (i := 14) (v := .bool true) (d := 143) rfl rfl (by kernel_rfl) (by kernel_rfl) (by kernel_rfl) (fun _ _ _ h => h) (Or.inl ⟨by rfl, ?_⟩) hHeld ?_
                  · (intro W hW; (try dsimp only at hW); go_simp)
                  try simp only [Act.put, List.setIfInBounds_toArray, List.set_cons_zero, List.set_cons_succ]
                  refine take2 rfl (i := 15) (v := (.agg #[.bool true, .slice ap mp cp, .slice dp np fp, .slice gp op hp])) (d := 144) rfl rfl (by kernel_rfl) (by kernel_rfl) (by kernel_rfl) (fun _ _ _ h => h) (Or.inl ⟨by rfl, ?_⟩) hHeld ?_
                  · (intro W hW; obtain ⟨_, _, _, _, _, _, _, _⟩ := SS.out W hW; go_simp)
                  try simp only [Act.put, List.setIfInBounds_toArray, List.set_cons_zero, List.set_cons_succ]
                  refine take2 rfl (i := 16) (v := .string key) (d := 145) rfl rfl (by kernel_rfl) (by kernel_rfl) (by kernel_rfl) (fun _ _ _ h => h) (Or.inl ⟨by rfl, ?_⟩) hHeld ?_
                  · (intro W hW; (try dsimp only at hW); go_simp)
                  try simp only [Act.put, List.setIfInBounds_toArray, List.set_cons_zero, List.set_cons_succ]
                  refine take2 rfl (i := 17) (v := .string val) (d := 146) rfl rfl (by kernel_rfl) (by kernel_rfl) (by kernel_rfl) (fun _ _ _ h => h) (Or.inl ⟨by rfl, ?_⟩) hHeld ?_
                  · (intro W hW; (try dsimp only at hW); go_simp)
                  try simp only [Act.put, List.setIfInBounds_toArray, List.set_cons_zero, List.set_cons_succ]
                  refine take2 rfl (i := 19) (v := (.agg #[.bool true, .slice ak mk ck, .slice dk nk fk, .slice gk ok hk])) (d := 148) rfl rfl (by kernel_rfl) (by kernel_rfl) (by kernel_rfl) (fun _ _ _ h => h) (Or.inl ⟨by rfl, ?_⟩) hHeld ?_
                  · (intro W hW; obtain ⟨_, _, _, _, _, _, _, _⟩ := SS.out W hW; go_simp)
                  try simp only [Act.put, List.setIfInBounds_toArray, List.set_cons_zero, List.set_cons_succ]
                  refine take2 rfl (i := 20) (v := .string key) (d := 149) rfl rfl (by kernel_rfl) (by kernel_rfl) (by kernel_rfl) (fun _ _ _ h => h) (Or.inl ⟨by rfl, ?_⟩) hHeld ?_
                  · (intro W hW; (try dsimp only at hW); go_simp)
                  try simp only [Act.put, List.setIfInBounds_toArray, List.set_cons_zero, List.set_cons_succ]
                  refine take2 rfl (i := 21) (v := .string val) (d := 150) rfl rfl (by kernel_rfl) (by kernel_rfl) (by kernel_rfl) (fun _ _ _ h => h) (Or.inl ⟨by rfl, ?_⟩) hHeld ?_
                  · (intro W hW; (try dsimp only at hW); go_simp)
                  try simp only [Act.put, List.setIfInBounds_toArray, List.set_cons_zero, List.set_cons_succ]
                  refine wpAnyH_ready (rs := [18]) (by kernel_rfl) (by simp) ?_
                  refine cons2 rfl rfl (fun K9 hK => ?_)
                  go_simp
                  go_at_call 23
                  refine Calls.mono (KP.out _ Bc.out) ?_
                  rintro e wd ⟨⟨vd, rfl, Pd⟩, bd⟩
                  have Bd : Hid (Below w9.heap.size w9 wd) := nextB Bc.out bd
                  have Qd : Hid _ := Pd
                  clear Pd
                  go_wp2_with fail
                  refine hK.out _ _ Bd.out (fun hX => ?_)
                  clear hK K9 hHeld
                  have hHeld := hX
                  clear hX
                  try simp only [Act.put, List.setIfInBounds_toArray, List.set_cons_zero, List.set_cons_succ]
                  refine wpAnyH_ready (rs := [22]) (by kernel_rfl) (by simp) ?_
                  refine cons2 rfl rfl (fun K9 hK => ?_)
                  go_simp
                  go_at_call 25
                  refine Calls.mono (KQ.out _ Bd.out) ?_
                  rintro e we ⟨⟨ve, rfl, Pe⟩, be⟩
                  have Be : Hid (Below w9.heap.size w9 we) := nextB Bd.out be
                  have Qe : Hid _ := And.intro (Qd.out.below be) Pe
                  clear Pe
                  go_wp2_with fail
                  refine hK.out _ _ Be.out (fun hX => ?_)
                  clear hK K9 hHeld
                  have hHeld := hX
                  clear hX
                  try simp only [Act.put, List.setIfInBounds_toArray, List.set_cons_zero, List.set_cons_succ]
                  refine wpAnyH_ready (rs := [23]) (by kernel_rfl) (by simp) ?_
                  refine cons2 rfl rfl (fun K9 hK => ?_)
                  go_simp
                  go_at_call 19
                  refine Calls.mono (same_any _ _ _ _ Qe.out.1 Qe.out.2 BDu.out) ?_
                  rintro e wf ⟨rfl, bf⟩
                  have Bf : Hid (Below w9.heap.size w9 wf) := nextB Be.out bf
                  go_wp2_with fail
                  refine hK.out _ _ Bf.out (fun hX => ?_)
                  clear hK K9 hHeld
                  have hHeld := hX
                  clear hX
                  try simp only [Act.put, List.setIfInBounds_toArray, List.set_cons_zero, List.set_cons_succ]
                  refine take2 rfl (i := 24) (v := .bool true) (d := 153) rfl rfl (by kernel_rfl) (by kernel_rfl) (by kernel_rfl) (fun _ _ _ h => h) (Or.inl ⟨by rfl, ?_⟩) hHeld ?_
                  · (intro W hW; (try dsimp only at hW); go_simp)
                  try simp only [Act.put, List.setIfInBounds_toArray, List.set_cons_zero, List.set_cons_succ]
                  refine take2 rfl (i := 25) (v := .bool true) (d := 154) rfl rfl (by kernel_rfl) (by kernel_rfl) (by kernel_rfl) (fun _ _ _ h => h) (Or.inl ⟨by rfl, ?_⟩) hHeld ?_
                  · (intro W hW; (try dsimp only at hW); go_simp)
                  try simp only [Act.put, List.setIfInBounds_toArray, List.set_cons_zero, List.set_cons_succ]
                  refine take2 rfl (i := 26) (v := (.agg #[.bool true, .slice ap mp cp, .slice dp np fp, .slice gp op hp])) (d := 155) rfl rfl (by kernel_rfl) (by kernel_rfl) (by kernel_rfl) (fun _ _ _ h => h) (Or.inl ⟨by rfl, ?_⟩) hHeld ?_
                  · (intro W hW; obtain ⟨_, _, _, _, _, _, _, _⟩ := SS.out W hW; go_simp)
                  try simp only [Act.put, List.setIfInBounds_toArray, List.set_cons_zero, List.set_cons_succ]
                  refine take2 rfl (i := 27) (v := .string key) (d := 156) rfl rfl (by kernel_rfl) (by kernel_rfl) (by kernel_rfl) (fun _ _ _ h => h) (Or.inl ⟨by rfl, ?_⟩) hHeld ?_
                  · (intro W hW; (try dsimp only at hW); go_simp)
                  try simp only [Act.put, List.setIfInBounds_toArray, List.set_cons_zero, List.set_cons_succ]
                  refine take2 rfl (i := 29) (v := (.agg #[.bool true, .slice ak mk ck, .slice dk nk fk, .slice gk ok hk])) (d := 158) rfl rfl (by kernel_rfl) (by kernel_rfl) (by kernel_rfl) (fun _ _ _ h => h) (Or.inl ⟨by rfl, ?_⟩) hHeld ?_
                  · (intro W hW; obtain ⟨_, _, _, _, _, _, _, _⟩ := SS.out W hW; go_simp)
                  try simp only [Act.put, List.setIfInBounds_toArray, List.set_cons_zero, List.set_cons_succ]
                  refine take2 rfl (i := 30) (v := .string key) (d := 159) rfl rfl (by kernel_rfl) (by kernel_rfl) (by kernel_rfl) (fun _ _ _ h => h) (Or.inl ⟨by rfl, ?_⟩) hHeld ?_
                  · (intro W hW; (try dsimp only at hW); go_simp)
                  try simp only [Act.put, List.setIfInBounds_toArray, List.set_cons_zero, List.set_cons_succ]
                  refine wpAnyH_ready (rs := [28]) (by kernel_rfl) (by simp) ?_
                  refine cons2 rfl rfl (fun K9 hK => ?_)
                  go_simp
                  go_at_call 26
                  refine Calls.mono (KD.out _ Bf.out) ?_
                  rintro e wh ⟨⟨vh, rfl, Ph⟩, bh⟩
                  have Bh : Hid (Below w9.heap.size w9 wh) := nextB Bf.out bh
                  have Qh : Hid _ := Ph
                  clear Ph
                  go_wp2_with fail
                  refine hK.out _ _ Bh.out (fun hX => ?_)
                  clear hK K9 hHeld
                  have hHeld := hX
                  clear hX
                  try simp only [Act.put, List.setIfInBounds_toArray, List.set_cons_zero, List.set_cons_succ]
                  refine wpAnyH_ready (rs := [31]) (by kernel_rfl) (by simp) ?_
                  refine cons2 rfl rfl (fun K9 hK => ?_)
                  go_simp
                  go_at_call 27
                  refine Calls.mono (KE.out _ Bh.out) ?_
                  rintro e wi ⟨⟨vi, rfl, Pi⟩, bi⟩
                  have Bi : Hid (Below w9.heap.size w9 wi) := nextB Bh.out bi
                  have Qi : Hid _ := And.intro (Qh.out.below bi) Pi
                  clear Pi
                  go_wp2_with fail
                  refine hK.out _ _ Bi.out (fun hX => ?_)
                  clear hK K9 hHeld
                  have hHeld := hX
                  clear hX
                  try simp only [Act.put, List.setIfInBounds_toArray, List.set_cons_zero, List.set_cons_succ]
                  refine wpAnyH_ready (rs := [32]) (by kernel_rfl) (by simp) ?_
                  refine cons2 rfl rfl (fun K9 hK => ?_)
                  go_simp
                  go_at_call 19
                  refine Calls.mono (same_any _ _ _ _ Qi.out.1 Qi.out.2 BDd.out) ?_
                  rintro e wj ⟨rfl, bj⟩
                  have Bj : Hid (Below w9.heap.size w9 wj) := nextB Bi.out bj
                  go_wp2_with fail
                  refine hK.out _ _ Bj.out (fun hX => ?_)
                  clear hK K9 hHeld
                  have hHeld := hX
                  clear hX
                  try simp only [Act.put, List.setIfInBounds_toArray, List.set_cons_zero, List.set_cons_succ]
                  refine take2 rfl (i := 33) (v := .bool true) (d := 162) rfl rfl (by kernel_rfl) (by kernel_rfl) (by kernel_rfl) (fun _ _ _ h => h) (Or.inl ⟨by rfl, ?_⟩) hHeld ?_
                  · (intro W hW; (try dsimp only at hW); go_simp)
                  try simp only [Act.put, List.setIfInBounds_toArray, List.set_cons_zero, List.set_cons_succ]
                  refine take2 rfl (i := 34) (v := .bool true) (d := 163) rfl rfl (by kernel_rfl) (by kernel_rfl) (by kernel_rfl) (fun _ _ _ h => h) (Or.inl ⟨by rfl, ?_⟩) hHeld ?_
                  · (intro W hW; (try dsimp only at hW); go_simp)
                  try simp only [Act.put, List.setIfInBounds_toArray, List.set_cons_zero, List.set_cons_succ]
                  refine take2 rfl (i := 35) (v := (.agg #[.bool true, .slice ap mp cp, .slice dp np fp, .slice gp op hp])) (d := 164) rfl rfl (by kernel_rfl) (by kernel_rfl) (by kernel_rfl) (fun _ _ _ h => h) (Or.inl ⟨by rfl, ?_⟩) hHeld ?_
                  · (intro W hW; obtain ⟨_, _, _, _, _, _, _, _⟩ := SS.out W hW; go_simp)
                  try simp only [Act.put, List.setIfInBounds_toArray, List.set_cons_zero, List.set_cons_succ]
                  refine take2 rfl (i := 36) (v := (.agg #[.bool true, .slice ak mk ck, .slice dk nk fk, .slice gk ok hk])) (d := 165) rfl rfl (by kernel_rfl) (by kernel_rfl) (by kernel_rfl) (fun _ _ _ h => h) (Or.inl ⟨by rfl, ?_⟩) hHeld ?_
                  · (intro W hW; obtain ⟨_, _, _, _, _, _, _, _⟩ := SS.out W hW; go_simp)
                  try simp only [Act.put, List.setIfInBounds_toArray, List.set_cons_zero, List.set_cons_succ]
                  refine wpAnyH_ready (rs := [37]) (by kernel_rfl) (by simp) ?_
                  refine cons2 rfl rfl (fun K9 hK => ?_)
                  go_simp
                  go_at_call 19
                  refine Calls.mono (same_any _ _ p _ (PP.out _ Bj.out) (PW.out _ Bj.out) BDp.out) ?_
                  rintro e wl ⟨rfl, bl⟩
                  have Bl : Hid (Below w9.heap.size w9 wl) := nextB Bj.out bl
                  go_wp2_with fail
                  refine hK.out _ _ Bl.out (fun hX => ?_)
                  clear hK K9 hHeld
                  have hHeld := hX
                  clear hX
                  try simp only [Act.put, List.setIfInBounds_toArray, List.set_cons_zero, List.set_cons_succ]
                  refine take2 rfl (i := 38) (v := .bool true) (d := 167) rfl rfl (by kernel_rfl) (by kernel_rfl) (by kernel_rfl) (fun _ _ _ h => h) (Or.inl ⟨by rfl, ?_⟩) hHeld ?_
                  · (intro W hW; (try dsimp only at hW); go_simp)
                  try simp only [Act.put, List.setIfInBounds_toArray, List.set_cons_zero, List.set_cons_succ]
                  refine take2 rfl (i := 39) (v := .bool true) (d := 6) rfl rfl (by kernel_rfl) (by kernel_rfl) (by kernel_rfl) (fun _ _ _ h => h) (Or.inl ⟨by rfl, ?_⟩) hHeld ?_
                  · (intro W hW; (try dsimp only at hW); go_simp)
                  try simp only [Act.put, List.setIfInBounds_toArray, List.set_cons_zero, List.set_cons_succ]
                  refine wpAnyH_done (by kernel_rfl) ?_ _
                  go_wp2
                  exact bodyPost_ret (v := .bool true) (by simp [results, Try.results6, go_sem]) rfl ⟨rfl, nextB BW9.out Bl.out⟩
                · obtain ⟨M, hM⟩ : ∃ M, P = M + 1 := ⟨P - 1, by omega⟩
                  have PK : Hid (M < mk) := by show _ < _; omega
                  have NE : Hid (kAt p.keys M ≠ key) := fun e => by
                    have := of_decide_eq_false PF
                    exact this ⟨by omega, by rw [hM, Nat.add_sub_cancel]; exact e⟩
                  obtain ⟨bk, ob, rfl, _⟩ := e0.out.at (by have := PK.out; omega)
                  have e1 : wg.cell? ⟨bk, ob + M, none⟩ = some (.string (kAt p.keys M)) := e0.out.str PK.out
                  have q2 : ((kAt p.keys M).toList == key.toList) = false := by rw [toL_eq]; exact decide_eq_false NE.out
                  have cN : (0 : Int) < (P : Int) := by omega
                  have dN : (P : Int) - 1 = (M : Int) := by omega
                  have dN' : 0 < P := by omega
                  have pk : (M : Int) < (mk : Int) := by have := PK.out; omega
                  have HM : Hid _ := hM
                  clear PF e0 hM c0 LK NE
                  generalize kAt p.keys M = s at *
                  go_upto_region 19 with fail
                  clear x0 x1 x2 x3 z0 z1 z2 z3 e1 q2
                  refine wp_region_held_drew (S := (fun W => Below w9.heap.size w9 W)) (by kernel_rfl) (nextB BG.out (Below.refl _ _).drew) (fun hHeld => ?_)
                  have B0 : Hid (Below w9.heap.size w9 wg.drew) := nextB BG.out (Below.refl _ _).drew
                  generalize wg.drew = wz at *
                  refine take2 rfl (i := 0) (v := .int .i64 (P : Nat)) (d := 129) rfl rfl (by kernel_rfl) (by kernel_rfl) (by kernel_rfl) (fun _ _ _ h => h) (Or.inl ⟨by rfl, ?_⟩) hHeld ?_
                  · (intro W hW; (try dsimp only at hW); go_simp)
                  try simp only [Act.put, List.setIfInBounds_toArray, List.set_cons_zero, List.set_cons_succ]
                  refine take2 rfl (i := 1) (v := .int .i64 (P : Nat)) (d := 130) rfl rfl (by kernel_rfl) (by kernel_rfl) (by kernel_rfl) (fun _ _ _ h => h) (Or.inl ⟨by rfl, ?_⟩) hHeld ?_
                  · (intro W hW; (try dsimp only at hW); go_simp)
                  try simp only [Act.put, List.setIfInBounds_toArray, List.set_cons_zero, List.set_cons_succ]
                  refine take2 rfl (i := 2) (v := .bool true) (d := 131) rfl rfl (by kernel_rfl) (by kernel_rfl) (by kernel_rfl) (fun _ _ _ h => h) (Or.inl ⟨by rfl, ?_⟩) hHeld ?_
                  · (intro W hW; (try dsimp only at hW); go_simp)
                  try simp only [Act.put, List.setIfInBounds_toArray, List.set_cons_zero, List.set_cons_succ]
                  refine take2 rfl (i := 3) (v := .bool true) (d := 132) rfl rfl (by kernel_rfl) (by kernel_rfl) (by kernel_rfl) (fun _ _ _ h => h) (Or.inl ⟨by rfl, ?_⟩) hHeld ?_
                  · (intro W hW; (try dsimp only at hW); go_simp)
                  try simp only [Act.put, List.setIfInBounds_toArray, List.set_cons_zero, List.set_cons_succ]
                  refine take2 rfl (i := 4) (v := .bool false) (d := 133) rfl rfl (by kernel_rfl) (by kernel_rfl) (by kernel_rfl) (fun _ _ _ h => h) (Or.inl ⟨by rfl, ?_⟩) hHeld ?_
                  · (intro W hW; (try dsimp only at hW); go_simp)
                  try simp only [Act.put, List.setIfInBounds_toArray, List.set_cons_zero, List.set_cons_succ]
                  refine take2 rfl (i := 5) (v := .bool false) (d := 134) rfl rfl (by kernel_rfl) (by kernel_rfl) (by kernel_rfl) (fun _ _ _ h => h) (Or.inl ⟨by rfl, ?_⟩) hHeld ?_
                  · (intro W hW; (try dsimp only at hW); go_simp)
                  try simp only [Act.put, List.setIfInBounds_toArray, List.set_cons_zero, List.set_cons_succ]
                  refine take2 rfl (i := 6) (v := .bool true) (d := 135) rfl rfl (by kernel_rfl) (by kernel_rfl) (by kernel_rfl) (fun _ _ _ h => h) (Or.inl ⟨by rfl, ?_⟩) hHeld ?_
                  · (intro W hW; (try dsimp only at hW); go_simp)
                  try simp only [Act.put, List.setIfInBounds_toArray, List.set_cons_zero, List.set_cons_succ]
                  refine take2 rfl (i := 7) (v := .bool true) (d := 136) rfl rfl (by kernel_rfl) (by kernel_rfl) (by kernel_rfl) (fun _ _ _ h => h) (Or.inl ⟨by rfl, ?_⟩) hHeld ?_
                  · (intro W hW; (try dsimp only at hW); go_simp)
                  try simp only [Act.put, List.setIfInBounds_toArray, List.set_cons_zero, List.set_cons_succ]
                  refine take2 rfl (i := 8) (v := .bool true) (d := 137) rfl rfl (by kernel_rfl) (by kernel_rfl) (by kernel_rfl) (fun _ _ _ h => h) (Or.inl ⟨by rfl, ?_⟩) hHeld ?_
                  · (intro W hW; (try dsimp only at hW); go_simp)
                  try simp only [Act.put, List.setIfInBounds_toArray, List.set_cons_zero, List.set_cons_succ]
                  refine take2 rfl (i := 9) (v := (.agg #[.bool true, .slice ap mp cp, .slice dp np fp, .slice gp op hp])) (d := 138) rfl rfl (by kernel_rfl) (by kernel_rfl) (by kernel_rfl) (fun _ _ _ h => h) (Or.inl ⟨by rfl, ?_⟩) hHeld ?_
                  · (intro W hW; obtain ⟨_, _, _, _, _, _, _, _⟩ := SS.out W hW; go_simp)
                  try simp only [Act.put, List.setIfInBounds_toArray, List.set_cons_zero, List.set_cons_succ]
                  refine take2 rfl (i := 10) (v := .string key) (d := 139) rfl rfl (by kernel_rfl) (by kernel_rfl) (by kernel_rfl) (fun _ _ _ h => h) (Or.inl ⟨by rfl, ?_⟩) hHeld ?_
                  · (intro W hW; (try dsimp only at hW); go_simp)
                  try simp only [Act.put, List.setIfInBounds_toArray, List.set_cons_zero, List.set_cons_succ]
                  refine wpAnyH_ready (rs := [11]) (by kernel_rfl) (by simp) ?_
                  refine cons2 rfl rfl (fun K9 hK => ?_)
                  go_simp
                  go_at_call 22
                  refine Calls.mono (KK.out _ B0.out) ?_
                  rintro e wc ⟨rfl, bc⟩
                  have Bc : Hid (Below w9.heap.size w9 wc) := nextB B0.out bc
                  go_wp2_with fail
                  refine hK.out _ _ Bc.out (fun hX => ?_)
                  clear hK K9 hHeld
                  have hHeld := hX
                  clear hX
                  try simp only [Act.put, List.setIfInBounds_toArray, List.set_cons_zero, List.set_cons_succ]
                  refine take2 rfl (i := 12) (v := .bool true) (d := 141) rfl rfl (by kernel_rfl) (by kernel_rfl) (by kernel_rfl) (fun _ _ _ h => h) (Or.inl ⟨by rfl, ?_⟩) hHeld ?_
                  · (intro W hW; (try dsimp only at hW); go_simp)
                  try simp only [Act.put, List.setIfInBounds_toArray, List.set_cons_zero, List.set_cons_succ]
                  refine take2 rfl (i := 13) (v := .bool true) (d := 142) rfl rfl (by kernel_rfl) (by kernel_rfl) (by kernel_rfl) (fun _ _ _ h => h) (Or.inl ⟨by rfl, ?_⟩) hHeld ?_
                  · (intro W hW; (try dsimp only at hW); go_simp)
                  try simp only [Act.put, List.setIfInBounds_toArray, List.set_cons_zero, List.set_cons_succ]
                  refine take2 rfl (i := 14) (v := .bool true) (d := 143) rfl rfl (by kernel_rfl) (by kernel_rfl) (by kernel_rfl) (fun _ _ _ h => h) (Or.inl ⟨by rfl, ?_⟩) hHeld ?_
                  · (intro W hW; (try dsimp only at hW); go_simp)
                  try simp only [Act.put, List.setIfInBounds_toArray, List.set_cons_zero, List.set_cons_succ]
                  refine take2 rfl (i := 15) (v := (.agg #[.bool true, .slice ap mp cp, .slice dp np fp, .slice gp op hp])) (d := 144) rfl rfl (by kernel_rfl) (by kernel_rfl) (by kernel_rfl) (fun _ _ _ h => h) (Or.inl ⟨by rfl, ?_⟩) hHeld ?_
                  · (intro W hW; obtain ⟨_, _, _, _, _, _, _, _⟩ := SS.out W hW; go_simp)
                  try simp only [Act.put, List.setIfInBounds_toArray, List.set_cons_zero, List.set_cons_succ]
                  refine take2 rfl (i := 16) (v := .string key) (d := 145) rfl rfl (by kernel_rfl) (by kernel_rfl) (by kernel_rfl) (fun _ _ _ h => h) (Or.inl ⟨by rfl, ?_⟩) hHeld ?_
                  · (intro W hW; (try dsimp only at hW); go_simp)
                  try simp only [Act.put, List.setIfInBounds_toArray, List.set_cons_zero, List.set_cons_succ]
                  refine take2 rfl (i := 17) (v := .string val) (d := 146) rfl rfl (by kernel_rfl) (by kernel_rfl) (by kernel_rfl) (fun _ _ _ h => h) (Or.inl ⟨by rfl, ?_⟩) hHeld ?_
                  · (intro W hW; (try dsimp only at hW); go_simp)
                  try simp only [Act.put, List.setIfInBounds_toArray, List.set_cons_zero, List.set_cons_succ]
                  refine take2 rfl (i := 19) (v := (.agg #[.bool true, .slice (some ⟨bk, ob, none⟩) mk ck, .slice dk nk fk, .slice gk ok hk])) (d := 148) rfl rfl (by kernel_rfl) (by kernel_rfl) (by kernel_rfl) (fun _ _ _ h => h) (Or.inl ⟨by rfl, ?_⟩) hHeld ?_
                  · (intro W hW; obtain ⟨_, _, _, _, _, _, _, _⟩ := SS.out W hW; go_simp)
                  try simp only [Act.put, List.setIfInBounds_toArray, List.set_cons_zero, List.set_cons_succ]
                  refine take2 rfl (i := 20) (v := .string key) (d := 149) rfl rfl (by kernel_rfl) (by kernel_rfl) (by kernel_rfl) (fun _ _ _ h => h) (Or.inl ⟨by rfl, ?_⟩) hHeld ?_
                  · (intro W hW; (try dsimp only at hW); go_simp)
                  try simp only [Act.put, List.setIfInBounds_toArray, List.set_cons_zero, List.set_cons_succ]
                  refine take2 rfl (i := 21) (v := .string val) (d := 150) rfl rfl (by kernel_rfl) (by kernel_rfl) (by kernel_rfl) (fun _ _ _ h => h) (Or.inl ⟨by rfl, ?_⟩) hHeld ?_
                  · (intro W hW; (try dsimp only at hW); go_simp)
                  try simp only [Act.put, List.setIfInBounds_toArray, List.set_cons_zero, List.set_cons_succ]
                  refine wpAnyH_ready (rs := [18]) (by kernel_rfl) (by simp) ?_
                  refine cons2 rfl rfl (fun K9 hK => ?_)
                  go_simp
                  go_at_call 23
                  refine Calls.mono (KP.out _ Bc.out) ?_
                  rintro e wd ⟨⟨vd, rfl, Pd⟩, bd⟩
                  have Bd : Hid (Below w9.heap.size w9 wd) := nextB Bc.out bd
                  have Qd : Hid _ := Pd
                  clear Pd
                  go_wp2_with fail
                  refine hK.out _ _ Bd.out (fun hX => ?_)
                  clear hK K9 hHeld
                  have hHeld := hX
                  clear hX
                  try simp only [Act.put, List.setIfInBounds_toArray, List.set_cons_zero, List.set_cons_succ]
                  refine wpAnyH_ready (rs := [22]) (by kernel_rfl) (by simp) ?_
                  refine cons2 rfl rfl (fun K9 hK => ?_)
                  go_simp
                  go_at_call 25
                  refine Calls.mono (KQ.out _ Bd.out) ?_
                  rintro e we ⟨⟨ve, rfl, Pe⟩, be⟩
                  have Be : Hid (Below w9.heap.size w9 we) := nextB Bd.out be
                  have Qe : Hid _ := And.intro (Qd.out.below be) Pe
                  clear Pe
                  go_wp2_with fail
                  refine hK.out _ _ Be.out (fun hX => ?_)
                  clear hK K9 hHeld
                  have hHeld := hX
                  clear hX
                  try simp only [Act.put, List.setIfInBounds_toArray, List.set_cons_zero, List.set_cons_succ]
                  refine wpAnyH_ready (rs := [23]) (by kernel_rfl) (by simp) ?_
                  refine cons2 rfl rfl (fun K9 hK => ?_)
                  go_simp
                  go_at_call 19
                  refine Calls.mono (same_any _ _ _ _ Qe.out.1 Qe.out.2 BDu.out) ?_
                  rintro e wf ⟨rfl, bf⟩
                  have Bf : Hid (Below w9.heap.size w9 wf) := nextB Be.out bf
                  go_wp2_with fail
                  refine hK.out _ _ Bf.out (fun hX => ?_)
                  clear hK K9 hHeld
                  have hHeld := hX
                  clear hX
                  try simp only [Act.put, List.setIfInBounds_toArray, List.set_cons_zero, List.set_cons_succ]
                  refine take2 rfl (i := 24) (v := .bool true) (d := 153) rfl rfl (by kernel_rfl) (by kernel_rfl) (by kernel_rfl) (fun _ _ _ h => h) (Or.inl ⟨by rfl, ?_⟩) hHeld ?_
                  · (intro W hW; (try dsimp only at hW); go_simp)
                  try simp only [Act.put, List.setIfInBounds_toArray, List.set_cons_zero, List.set_cons_succ]
                  refine take2 rfl (i := 25) (v := .bool true) (d := 154) rfl rfl (by kernel_rfl) (by kernel_rfl) (by kernel_rfl) (fun _ _ _ h => h) (Or.inl ⟨by rfl, ?_⟩) hHeld ?_
                  · (intro W hW; (try dsimp only at hW); go_simp)
                  try simp only [Act.put, List.setIfInBounds_toArray, List.set_cons_zero, List.set_cons_succ]
                  refine take2 rfl (i := 26) (v := (.agg #[.bool true, .slice ap mp cp, .slice dp np fp, .slice gp op hp])) (d := 155) rfl rfl (by kernel_rfl) (by kernel_rfl) (by kernel_rfl) (fun _ _ _ h => h) (Or.inl ⟨by rfl, ?_⟩) hHeld ?_
                  · (intro W hW; obtain ⟨_, _, _, _, _, _, _, _⟩ := SS.out W hW; go_simp)
                  try simp only [Act.put, List.setIfInBounds_toArray, List.set_cons_zero, List.set_cons_succ]
                  refine take2 rfl (i := 27) (v := .string key) (d := 156) rfl rfl (by kernel_rfl) (by kernel_rfl) (by kernel_rfl) (fun _ _ _ h => h) (Or.inl ⟨by rfl, ?_⟩) hHeld ?_
                  · (intro W hW; (try dsimp only at hW); go_simp)
                  try simp only [Act.put, List.setIfInBounds_toArray, List.set_cons_zero, List.set_cons_succ]
                  refine take2 rfl (i := 29) (v := (.agg #[.bool true, .slice (some ⟨bk, ob, none⟩) mk ck, .slice dk nk fk, .slice gk ok hk])) (d := 158) rfl rfl (by kernel_rfl) (by kernel_rfl) (by kernel_rfl) (fun _ _ _ h => h) (Or.inl ⟨by rfl, ?_⟩) hHeld ?_
                  · (intro W hW; obtain ⟨_, _, _, _, _, _, _, _⟩ := SS.out W hW; go_simp)
                  try simp only [Act.put, List.setIfInBounds_toArray, List.set_cons_zero, List.set_cons_succ]
                  refine take2 rfl (i := 30) (v := .string key) (d := 159) rfl rfl (by kernel_rfl) (by kernel_rfl) (by kernel_rfl) (fun _ _ _ h => h) (Or.inl ⟨by rfl, ?_⟩) hHeld ?_
                  · (intro W hW; (try dsimp only at hW); go_simp)
                  try simp only [Act.put, List.setIfInBounds_toArray, List.set_cons_zero, List.set_cons_succ]
                  refine wpAnyH_ready (rs := [28]) (by kernel_rfl) (by simp) ?_
                  refine cons2 rfl rfl (fun K9 hK => ?_)
                  go_simp
                  go_at_call 26
                  refine Calls.mono (KD.out _ Bf.out) ?_
                  rintro e wh ⟨⟨vh, rfl, Ph⟩, bh⟩
                  have Bh : Hid (Below w9.heap.size w9 wh) := nextB Bf.out bh
                  have Qh : Hid _ := Ph
                  clear Ph
                  go_wp2_with fail
                  refine hK.out _ _ Bh.out (fun hX => ?_)
                  clear hK K9 hHeld
                  have hHeld := hX
                  clear hX
                  try simp only [Act.put, List.setIfInBounds_toArray, List.set_cons_zero, List.set_cons_succ]
                  refine wpAnyH_ready (rs := [31]) (by kernel_rfl) (by simp) ?_
                  refine cons2 rfl rfl (fun K9 hK => ?_)
                  go_simp
                  go_at_call 27
                  refine Calls.mono (KE.out _ Bh.out) ?_
                  rintro e wi ⟨⟨vi, rfl, Pi⟩, bi⟩
                  have Bi : Hid (Below w9.heap.size w9 wi) := nextB Bh.out bi
                  have Qi : Hid _ := And.intro (Qh.out.below bi) Pi
                  clear Pi
                  go_wp2_with fail
                  refine hK.out _ _ Bi.out (fun hX => ?_)
                  clear hK K9 hHeld
                  have hHeld := hX
                  clear hX
                  try simp only [Act.put, List.setIfInBounds_toArray, List.set_cons_zero, List.set_cons_succ]
                  refine wpAnyH_ready (rs := [32]) (by kernel_rfl) (by simp) ?_
                  refine cons2 rfl rfl (fun K9 hK => ?_)
                  go_simp
                  go_at_call 19
                  refine Calls.mono (same_any _ _ _ _ Qi.out.1 Qi.out.2 BDd.out) ?_
                  rintro e wj ⟨rfl, bj⟩
                  have Bj : Hid (Below w9.heap.size w9 wj) := nextB Bi.out bj
                  go_wp2_with fail
                  refine hK.out _ _ Bj.out (fun hX => ?_)
                  clear hK K9 hHeld
                  have hHeld := hX
                  clear hX
                  try simp only [Act.put, List.setIfInBounds_toArray, List.set_cons_zero, List.set_cons_succ]
                  refine take2 rfl (i := 33) (v := .bool true) (d := 162) rfl rfl (by kernel_rfl) (by kernel_rfl) (by kernel_rfl) (fun _ _ _ h => h) (Or.inl ⟨by rfl, ?_⟩) hHeld ?_
                  · (intro W hW; (try dsimp only at hW); go_simp)
                  try simp only [Act.put, List.setIfInBounds_toArray, List.set_cons_zero, List.set_cons_succ]
                  refine take2 rfl (i := 34) (v := .bool true) (d := 163) rfl rfl (by kernel_rfl) (by kernel_rfl) (by kernel_rfl) (fun _ _ _ h => h) (Or.inl ⟨by rfl, ?_⟩) hHeld ?_
                  · (intro W hW; (try dsimp only at hW); go_simp)
                  try simp only [Act.put, List.setIfInBounds_toArray, List.set_cons_zero, List.set_cons_succ]
                  refine take2 rfl (i := 35) (v := (.agg #[.bool true, .slice ap mp cp, .slice dp np fp, .slice gp op hp])) (d := 164) rfl rfl (by kernel_rfl) (by kernel_rfl) (by kernel_rfl) (fun _ _ _ h => h) (Or.inl ⟨by rfl, ?_⟩) hHeld ?_
                  · (intro W hW; obtain ⟨_, _, _, _, _, _, _, _⟩ := SS.out W hW; go_simp)
                  try simp only [Act.put, List.setIfInBounds_toArray, List.set_cons_zero, List.set_cons_succ]
                  refine take2 rfl (i := 36) (v := (.agg #[.bool true, .slice (some ⟨bk, ob, none⟩) mk ck, .slice dk nk fk, .slice gk ok hk])) (d := 165) rfl rfl (by kernel_rfl) (by kernel_rfl) (by kernel_rfl) (fun _ _ _ h => h) (Or.inl ⟨by rfl, ?_⟩) hHeld ?_
                  · (intro W hW; obtain ⟨_, _, _, _, _, _, _, _⟩ := SS.out W hW; go_simp)
                  try simp only [Act.put, List.setIfInBounds_toArray, List.set_cons_zero, List.set_cons_succ]
                  refine wpAnyH_ready (rs := [37]) (by kernel_rfl) (by simp) ?_
                  refine cons2 rfl rfl (fun K9 hK => ?_)
                  go_simp
                  go_at_call 19
                  refine Calls.mono (same_any _ _ p _ (PP.out _ Bj.out) (PW.out _ Bj.out) BDp.out) ?_
                  rintro e wl ⟨rfl, bl⟩
                  have Bl : Hid (Below w9.heap.size w9 wl) := nextB Bj.out bl
                  go_wp2_with fail
                  refine hK.out _ _ Bl.out (fun hX => ?_)
                  clear hK K9 hHeld
                  have hHeld := hX
                  clear hX
                  try simp only [Act.put, List.setIfInBounds_toArray, List.set_cons_zero, List.set_cons_succ]
                  refine take2 rfl (i := 38) (v := .bool true) (d := 167) rfl rfl (by kernel_rfl) (by kernel_rfl) (by kernel_rfl) (fun _ _ _ h => h) (Or.inl ⟨by rfl, ?_⟩) hHeld ?_
                  · (intro W hW; (try dsimp only at hW); go_simp)
                  try simp only [Act.put, List.setIfInBounds_toArray, List.set_cons_zero, List.set_cons_succ]
                  refine take2 rfl (i := 39) (v := .bool true) (d := 6) rfl rfl (by kernel_rfl) (by kernel_rfl) (by kernel_rfl) (fun _ _ _ h => h) (Or.inl ⟨by rfl, ?_⟩) hHeld ?_
                  · (intro W hW; (try dsimp only at hW); go_simp)
                  try simp only [Act.put, List.setIfInBounds_toArray, List.set_cons_zero, List.set_cons_succ]
                  refine wpAnyH_done (by kernel_rfl) ?_ _
                  go_wp2
                  exact bodyPost_ret (v := .bool true) (by simp [results, Try.results6, go_sem]) rfl ⟨rfl, nextB BW9.out Bl.out⟩


set_option maxRecDepth 100000 in
theorem lifted (os : Os) (started : os.Started) (H : Type) (enc : TypeId × Value → H) :
    ReturnsInHanded {} Try.checked os 6 .any (Rows.pageKeysSpec.pre6 enc Try.prog Try.f6 Rows.pageKeysRow.domain false) (Rows.pageKeysSpec.post enc Try.prog Try.f6 false true false false) := by
  refine returnsInHanded_of_change_sized (C := Try.checked) own started (by kernel_rfl) Try.func6
    (ChangeSpec.witness6 (enc := enc) (C := Try.checked) false ⟨#[], #[.agg #[.bool false, .slice none 0 0, .slice none 0 0, .slice none 0 0], .string ByteArray.empty, .string ByteArray.empty], []⟩ 8 (by kernel_rfl) (by kernel_rfl) (by kernel_rfl) (by kernel_rfl)) ?_
  intro W base args ds gs before hval0 hW hcnd hwt _
  have hval : ∀ (j : Nat) t v, Try.f6.params[j]? = some t → args[j]? = some v → Value.okWide Try.prog W .any base t v := hval0
  have hwz : ∀ (j : Nat) t d, (Try.f6.params.toList ++ Rows.pageKeysSpec.plain.varTypes Try.prog)[j]? = some t → (ds ++ gs)[j]? = some d → ∀ n ∈ d.weights Try.prog t, n ≤ reachBytes := fun j t d ht hd n hn => by
    simpa using List.all_eq_true.1 hwt n (DataW.weights_mem_each ht hd n hn)
  have hW' := hW
  obtain ⟨p, q, hA0, hV, rfl, hfz, hnd⟩ := hW
  have hA : DataW.TrodAll enc Try.prog W 0 (fun _ => true) true Try.f6.params.toList args.toList ds p := hA0
  rw [Try.params6] at hA hval hwz
  obtain ⟨v0, vs0, d0, ds0, p0, q0, hargs, rfl, rfl, h0, r0⟩ := trodAll_cons hA
  obtain ⟨v1, vs1, d1, ds1, p1, q1, rfl, rfl, rfl, h1, r1⟩ := trodAll_cons r0
  obtain ⟨v2, vs2, d2, ds2, p2, q2, rfl, rfl, rfl, h2, r2⟩ := trodAll_cons r1
  obtain ⟨rfl, rfl, rfl⟩ := trodAll_nil r2
  obtain rfl : args = #[v0, v1, v2] := by cases args; simp_all
  obtain ⟨rfl, rfl⟩ := trodVars_none hV
  have k0 := h0
  have lt0 : ∀ x ∈ p0, x.block < W.heap.size := by obtain ⟨m, hm⟩ := k0; exact DataW.trod_lt m _ _ _ hm
  obtain ⟨g0, w0, x0, y0⟩ := pg_of (hval 0 26 v0 rfl rfl) h0 (hwz 0 26 d0 rfl rfl)
  obtain ⟨s1, rfl, rfl, rfl, w1⟩ := open_string Try.underlying9 (hval 1 9 v1 rfl rfl) h1
  obtain ⟨s2, rfl, rfl, rfl, w2⟩ := open_string Try.underlying9 (hval 2 9 v2 rfl rfl) h2
  clear hA0 hval0
  try simp only [List.append_nil, List.nil_append] at hW'
  refine (walk W v0 g0 w0 x0 y0 s1 w1 s2 w2).mono fun e W' ⟨he, bel⟩ => ?_
  subst he
  exact ⟨_, rfl, _, _, _, [], _, [], hW', trodAll_mk1 (shut_bool Try.underlying4 _), (trodAll_cons_mk (Below.trod laidOut (by kernel_rfl) (of_decide_eq_true (by kernel_rfl)) k0 bel lt0) (trodAll_cons_mk (shut_string Try.underlying9 w1) (trodAll_cons_mk (shut_string Try.underlying9 w2) trodAll_mk0))), rfl, bel.frame _, fun h => by cases h⟩

theorem over : Rows.pageKeysRow.holds Try.pinned (OpenSpec.ofChange Rows.pageKeysSpec) :=
  OpenClaim.holds_of_wide 6 Try.f6 rfl rfl rfl rfl rfl rfl rfl ⟨rfl, rfl, rfl, rfl, rfl⟩ rfl rfl rfl rfl rfl (by kernel_rfl) Try.func6 (by kernel_rfl)
    (of_decide_eq_true (by kernel_rfl)) (by unfold Func.isWrapper; first | (rw [if_pos (by decide +kernel)]; kernel_rfl) | (rw [if_neg (by decide +kernel)]; exact ⟨rfl, rfl⟩))
    (fun os started H enc _ => lifted os started H enc)

end Go.Proofs.Ytfedcghkohfhlaa.pageKeys
namespace Go.Proofs.Ytfedcghkohfhlaa

theorem PageKeys_holds : Rows.PageKeysSaid := pageKeys.over

end Go.Proofs.Ytfedcghkohfhlaa
