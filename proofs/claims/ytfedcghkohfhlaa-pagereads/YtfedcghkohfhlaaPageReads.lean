/- Proved: the law PageReads of package publicanlaw6 returns true for every row of bytes, whatever memory it starts in, on every schedule; no condition. -/
import Derived.Test.YtfedcghkohfhlaaSb
import Derived.Test.YtfedcghkohfhlaaRg
namespace Go.Proofs.Ytfedcghkohfhlaa.pageReads
open Go.ChangeShapes Go.WideShapes Go.ChangeAt Go.RowKit
set_option linter.unusedVariables false
set_option linter.unusedSimpArgs false

theorem app0 {w w' : World} (hg : (w.alloc (.cells #[] 5)).grownBy w' (Value.ownBlock (.slice (some ⟨w.heap.size, 0, none⟩) 0 0))) : Below w.heap.size w w' :=
  (allocB w _).grown hg (by simp) (fun k hk => ((own_empty w).row.lt k hk).1)
theorem zero_bd : Bd zeroP := ⟨by decide, by decide, by decide, by decide, by decide, fun k hk => by simp [zeroP] at hk⟩
theorem pvZ (W : World) : Pv W (.agg #[.bool false, .slice none 0 0, .slice none 0 0, .slice none 0 0]) zeroP := Pv.mk' (Sl.empty _) (Sl.empty _) (Sl.empty _) (fun k hk => by simp at hk)

set_option maxRecDepth 100000 in
set_option maxHeartbeats 4000000 in
theorem walk (w : World) (a : Option Addr) (n cap : Nat) (zs : List Int) (hz : By w a n cap zs) : Calls Try.prog 5 #[.slice a n cap] w fun e w' => e = .returned (.bool true) ∧ Below w.heap.size w w' := by
  have KA : Hid _ := awake_any w
  have ZH : Hid _ := hz
  have zl := hz.len
  clear hz
  by_cases hc : 1500 < n
  · have hd : decide ((1500 : Int) < (n : Int)) = true := decide_eq_true (by omega)
    have hd' : (1500 : Int) < (n : Int) := by omega
    go_enter Try.func5, Try.ntmps5
    go_wp2_with fail
    refine Calls.mono KA.out ?_
    rintro e w1 ⟨rfl, b1⟩
    go_wp2
    exact bodyPost_ret (v := .bool true) (by simp [results, Try.results5, go_sem]) rfl ⟨rfl, b1⟩
  · have hd : ¬ (1500 : Int) < (n : Int) := by omega
    go_enter Try.func5, Try.ntmps5
    go_wp2_with fail
    refine Calls.mono KA.out ?_
    rintro e w1 ⟨rfl, b1⟩
    have Z1 : Hid (By w1 a n cap zs) := ZH.out.below b1
    have B1 : Hid _ := b1
    clear b1 KA
    go_wp2_with (at_builtin; refine wpList_append_by rfl (.tmp 13) (.tmp 14) rfl w1.heap.size _ [] rfl (own_empty w1) a n cap zs rfl (Z1.out.below (allocB w1 _)) (by simp; omega) (by simp) ?_; intro v2 w2 o2 g2)
    rw [List.nil_append] at o2
    obtain ⟨a2, c2, rfl, y2, -, -⟩ := o2.by
    have B2 := app0 g2
    refine Calls.mono (Decode_any a2 zs.length c2 zs w2 y2 (by omega)) ?_
    rintro e w3 D3
    have Z3 : Hid (By w3 a n cap zs) := (Z1.out.below B2).below D3.bel
    have B3 : Hid (Below w.heap.size w w3) := nextB (nextB B1.out B2) D3.bel
    have KK : Hid _ := fun (W : World) (b : Below w3.heap.size w3 W) => kDecode_any a n cap zs W (Z3.out.below b) (by omega)
    clear o2 g2 y2 B2 Z1 B1
    cases hD : dcd zs with
    | none =>
      obtain rfl := D3.no hD
      have HD : Hid _ := hD
      clear D3 hD
      have L4 : Hid _ := And.intro (allocB w3 (.cells #[.bool false, (.slice none 0 0), (.slice none 0 0), (.slice none 0 0)] 26)) (B4.new w3 (.bool false) (.slice none 0 0) (.slice none 0 0) (.slice none 0 0) 26)
      go_upto_region 6 with fail
      generalize w3.alloc (.cells #[.bool false, (.slice none 0 0), (.slice none 0 0), (.slice none 0 0)] 26) = w4 at *
      go_wp2_with fail
      refine Calls.mono (KK.out w4 L4.out.1) ?_
      rintro e w5 D5
      obtain rfl := D5.no HD.out
      have L6 : Hid _ := And.intro (allocB w5 (.cells #[.bool false, (.slice none 0 0), (.slice none 0 0), (.slice none 0 0)] 35)) (B4.new w5 (.bool false) (.slice none 0 0) (.slice none 0 0) (.slice none 0 0) 35)
      have E5 : Hid (Below w4.heap.size w4 w5) := D5.bel
      clear D5
      go_upto_region 7 with fail
      generalize w5.alloc (.cells #[.bool false, (.slice none 0 0), (.slice none 0 0), (.slice none 0 0)] 35) = w6 at *
      have UW : Hid (Below w.heap.size w w6) := nextB (nextB (nextB B3.out L4.out.1) E5.out) L6.out.1
      have SS : Hid (∀ W, Below w6.heap.size w6 W → W.cell? ⟨w3.heap.size, 0, none⟩ = some (.bool false) ∧ W.cell? ⟨w3.heap.size, 1, none⟩ = some (.slice none 0 0) ∧ W.cell? ⟨w3.heap.size, 2, none⟩ = some (.slice none 0 0) ∧ W.cell? ⟨w3.heap.size, 3, none⟩ = some (.slice none 0 0) ∧ W.cell? ⟨w5.heap.size, 0, none⟩ = some (.bool false) ∧ W.cell? ⟨w5.heap.size, 1, none⟩ = some (.slice none 0 0) ∧ W.cell? ⟨w5.heap.size, 2, none⟩ = some (.slice none 0 0) ∧ W.cell? ⟨w5.heap.size, 3, none⟩ = some (.slice none 0 0)) := fun W b => by
        have q := ((L4.out.2.below E5.out).below L6.out.1).below b
        have r := L6.out.2.below b
        exact ⟨q.a0, q.a1, q.a2, q.a3, r.a0, r.a1, r.a2, r.a3⟩
      have S0 := SS.out w6.drew (Below.refl _ _).drew
      refine wp_region_held_drew (S := (fun W => W.cell? ⟨w3.heap.size, 0, none⟩ = some (.bool false) ∧ W.cell? ⟨w3.heap.size, 1, none⟩ = some (.slice none 0 0) ∧ W.cell? ⟨w3.heap.size, 2, none⟩ = some (.slice none 0 0) ∧ W.cell? ⟨w3.heap.size, 3, none⟩ = some (.slice none 0 0) ∧ W.cell? ⟨w5.heap.size, 0, none⟩ = some (.bool false) ∧ W.cell? ⟨w5.heap.size, 1, none⟩ = some (.slice none 0 0) ∧ W.cell? ⟨w5.heap.size, 2, none⟩ = some (.slice none 0 0) ∧ W.cell? ⟨w5.heap.size, 3, none⟩ = some (.slice none 0 0))) (by kernel_rfl) S0 (fun hHeld => ?_)
      refine take2 rfl (i := 0) (v := .bool false) (d := 24) rfl rfl (by kernel_rfl) (by kernel_rfl) (by kernel_rfl) (fun _ _ _ h => h) (Or.inl ⟨by rfl, ?_⟩) hHeld ?_
      · (intro W hW; (try dsimp only at hW); go_simp)
      try simp only [Act.put, List.setIfInBounds_toArray, List.set_cons_zero, List.set_cons_succ]
      refine take2 rfl (i := 1) (v := .int .i64 3) (d := 25) rfl rfl (by kernel_rfl) (by kernel_rfl) (by kernel_rfl) (fun _ _ _ h => h) (Or.inl ⟨by rfl, ?_⟩) hHeld ?_
      · (intro W hW; (try dsimp only at hW); go_simp)
      try simp only [Act.put, List.setIfInBounds_toArray, List.set_cons_zero, List.set_cons_succ]
      refine take2 rfl (i := 2) (v := .bool false) (d := 26) rfl rfl (by kernel_rfl) (by kernel_rfl) (by kernel_rfl) (fun _ _ _ h => h) (Or.inl ⟨by rfl, ?_⟩) hHeld ?_
      · (intro W hW; (try dsimp only at hW); go_simp)
      try simp only [Act.put, List.setIfInBounds_toArray, List.set_cons_zero, List.set_cons_succ]
      refine take2 rfl (i := 3) (v := .bool true) (d := 27) rfl rfl (by kernel_rfl) (by kernel_rfl) (by kernel_rfl) (fun _ _ _ h => h) (Or.inl ⟨by rfl, ?_⟩) hHeld ?_
      · (intro W hW; (try dsimp only at hW); go_simp)
      try simp only [Act.put, List.setIfInBounds_toArray, List.set_cons_zero, List.set_cons_succ]
      refine take2 rfl (i := 4) (v := .bool true) (d := 28) rfl rfl (by kernel_rfl) (by kernel_rfl) (by kernel_rfl) (fun _ _ _ h => h) (Or.inl ⟨by rfl, ?_⟩) hHeld ?_
      · (intro W hW; (try dsimp only at hW); go_simp)
      try simp only [Act.put, List.setIfInBounds_toArray, List.set_cons_zero, List.set_cons_succ]
      refine take2 rfl (i := 5) (v := .bool false) (d := 29) rfl rfl (by kernel_rfl) (by kernel_rfl) (by kernel_rfl) (fun _ _ _ h => h) (Or.inl ⟨by rfl, ?_⟩) hHeld ?_
      · (intro W hW; (try dsimp only at hW); go_simp)
      try simp only [Act.put, List.setIfInBounds_toArray, List.set_cons_zero, List.set_cons_succ]
      refine take2 rfl (i := 6) (v := .bool false) (d := 30) rfl rfl (by kernel_rfl) (by kernel_rfl) (by kernel_rfl) (fun _ _ _ h => h) (Or.inl ⟨by rfl, ?_⟩) hHeld ?_
      · (intro W hW; (try dsimp only at hW); go_simp)
      try simp only [Act.put, List.setIfInBounds_toArray, List.set_cons_zero, List.set_cons_succ]
      refine take2 rfl (i := 7) (v := .int .i64 3) (d := 31) rfl rfl (by kernel_rfl) (by kernel_rfl) (by kernel_rfl) (fun _ _ _ h => h) (Or.inl ⟨by rfl, ?_⟩) hHeld ?_
      · (intro W hW; (try dsimp only at hW); go_simp)
      try simp only [Act.put, List.setIfInBounds_toArray, List.set_cons_zero, List.set_cons_succ]
      refine take2 rfl (i := 8) (v := .bool true) (d := 32) rfl rfl (by kernel_rfl) (by kernel_rfl) (by kernel_rfl) (fun _ _ _ h => h) (Or.inl ⟨by rfl, ?_⟩) hHeld ?_
      · (intro W hW; (try dsimp only at hW); go_simp)
      try simp only [Act.put, List.setIfInBounds_toArray, List.set_cons_zero, List.set_cons_succ]
      refine take2 rfl (i := 9) (v := .bool true) (d := 33) rfl rfl (by kernel_rfl) (by kernel_rfl) (by kernel_rfl) (fun _ _ _ h => h) (Or.inl ⟨by rfl, ?_⟩) hHeld ?_
      · (intro W hW; (try dsimp only at hW); go_simp)
      try simp only [Act.put, List.setIfInBounds_toArray, List.set_cons_zero, List.set_cons_succ]
      refine take2 rfl (i := 10) (v := .bool true) (d := 34) rfl rfl (by kernel_rfl) (by kernel_rfl) (by kernel_rfl) (fun _ _ _ h => h) (Or.inl ⟨by rfl, ?_⟩) hHeld ?_
      · (intro W hW; (try dsimp only at hW); go_simp)
      try simp only [Act.put, List.setIfInBounds_toArray, List.set_cons_zero, List.set_cons_succ]
      refine take2 rfl (i := 11) (v := .bool true) (d := 35) rfl rfl (by kernel_rfl) (by kernel_rfl) (by kernel_rfl) (fun _ _ _ h => h) (Or.inl ⟨by rfl, ?_⟩) hHeld ?_
      · (intro W hW; (try dsimp only at hW); go_simp)
      try simp only [Act.put, List.setIfInBounds_toArray, List.set_cons_zero, List.set_cons_succ]
      refine take2 rfl (i := 12) (v := (.agg #[.bool false, .slice none 0 0, .slice none 0 0, .slice none 0 0])) (d := 36) rfl rfl (by kernel_rfl) (by kernel_rfl) (by kernel_rfl) (fun _ _ _ h => h) (Or.inl ⟨by rfl, ?_⟩) hHeld ?_
      · (intro W hW; (try dsimp only at hW); go_simp)
      try simp only [Act.put, List.setIfInBounds_toArray, List.set_cons_zero, List.set_cons_succ]
      refine take2 rfl (i := 13) (v := (.agg #[.bool false, .slice none 0 0, .slice none 0 0, .slice none 0 0])) (d := 37) rfl rfl (by kernel_rfl) (by kernel_rfl) (by kernel_rfl) (fun _ _ _ h => h) (Or.inl ⟨by rfl, ?_⟩) hHeld ?_
      · (intro W hW; (try dsimp only at hW); go_simp)
      try simp only [Act.put, List.setIfInBounds_toArray, List.set_cons_zero, List.set_cons_succ]
      refine wpAnyH_ready (rs := [14]) (by kernel_rfl) (by simp) ?_
      refine cons2 rfl rfl (fun K hK => ?_)
      go_simp
      (go_at_call 19; refine Calls.mono (same_any _ _ zeroP _ (pvZ _) (pvZ _) zero_bd) ?_; rintro e w7 ⟨rfl, b7⟩; have B7 : Hid (Below w6.heap.size w6 w7) := nextB (Below.refl _ _).drew b7; have S7 := SS.out w7 B7.out)
      go_wp2_with fail
      refine hK.out _ _ S7 (fun hX => ?_)
      clear hK K hHeld
      have hHeld := hX
      clear hX
      try simp only [Act.put, List.setIfInBounds_toArray, List.set_cons_zero, List.set_cons_succ]
      refine take2 rfl (i := 15) (v := .bool true) (d := 39) rfl rfl (by kernel_rfl) (by kernel_rfl) (by kernel_rfl) (fun _ _ _ h => h) (Or.inl ⟨by rfl, ?_⟩) hHeld ?_
      · (intro W hW; (try dsimp only at hW); go_simp)
      try simp only [Act.put, List.setIfInBounds_toArray, List.set_cons_zero, List.set_cons_succ]
      refine take2 rfl (i := 16) (v := .bool true) (d := 40) rfl rfl (by kernel_rfl) (by kernel_rfl) (by kernel_rfl) (fun _ _ _ h => h) (Or.inl ⟨by rfl, ?_⟩) hHeld ?_
      · (intro W hW; (try dsimp only at hW); go_simp)
      try simp only [Act.put, List.setIfInBounds_toArray, List.set_cons_zero, List.set_cons_succ]
      refine take2 rfl (i := 17) (v := .bool false) (d := 41) rfl rfl (by kernel_rfl) (by kernel_rfl) (by kernel_rfl) (fun _ _ _ h => h) (Or.inl ⟨by rfl, ?_⟩) hHeld ?_
      · (intro W hW; (try dsimp only at hW); go_simp)
      try simp only [Act.put, List.setIfInBounds_toArray, List.set_cons_zero, List.set_cons_succ]
      refine take2 rfl (i := 18) (v := .bool true) (d := 42) rfl rfl (by kernel_rfl) (by kernel_rfl) (by kernel_rfl) (fun _ _ _ h => h) (Or.inl ⟨by rfl, ?_⟩) hHeld ?_
      · (intro W hW; (try dsimp only at hW); go_simp)
      try simp only [Act.put, List.setIfInBounds_toArray, List.set_cons_zero, List.set_cons_succ]
      refine take2 rfl (i := 19) (v := .bool true) (d := 43) rfl rfl (by kernel_rfl) (by kernel_rfl) (by kernel_rfl) (fun _ _ _ h => h) (Or.inl ⟨by rfl, ?_⟩) hHeld ?_
      · (intro W hW; (try dsimp only at hW); go_simp)
      try simp only [Act.put, List.setIfInBounds_toArray, List.set_cons_zero, List.set_cons_succ]
      refine take2 rfl (i := 20) (v := undef) (d := 44) rfl rfl (by kernel_rfl) (by kernel_rfl) (by kernel_rfl) (fun _ _ _ h => h) (Or.inr ⟨by rfl, rfl⟩) hHeld ?_
      try simp only [Act.put, List.setIfInBounds_toArray, List.set_cons_zero, List.set_cons_succ]
      refine take2 rfl (i := 23) (v := undef) (d := 47) rfl rfl (by kernel_rfl) (by kernel_rfl) (by kernel_rfl) (fun _ _ _ h => h) (Or.inr ⟨by rfl, rfl⟩) hHeld ?_
      try simp only [Act.put, List.setIfInBounds_toArray, List.set_cons_zero, List.set_cons_succ]
      refine take2 rfl (i := 24) (v := undef) (d := 48) rfl rfl (by kernel_rfl) (by kernel_rfl) (by kernel_rfl) (fun _ _ _ h => h) (Or.inr ⟨by rfl, rfl⟩) hHeld ?_
      try simp only [Act.put, List.setIfInBounds_toArray, List.set_cons_zero, List.set_cons_succ]
      refine take2 rfl (i := 21) (v := undef) (d := 45) rfl rfl (by kernel_rfl) (by kernel_rfl) (by kernel_rfl) (fun _ _ _ h => h) (Or.inr ⟨by rfl, rfl⟩) hHeld ?_
      try simp only [Act.put, List.setIfInBounds_toArray, List.set_cons_zero, List.set_cons_succ]
      refine take2 rfl (i := 22) (v := undef) (d := 46) rfl rfl (by kernel_rfl) (by kernel_rfl) (by kernel_rfl) (fun _ _ _ h => h) (Or.inr ⟨by rfl, rfl⟩) hHeld ?_
      try simp only [Act.put, List.setIfInBounds_toArray, List.set_cons_zero, List.set_cons_succ]
      refine take2 rfl (i := 25) (v := undef) (d := 49) rfl rfl (by kernel_rfl) (by kernel_rfl) (by kernel_rfl) (fun _ _ _ h => h) (Or.inr ⟨by rfl, rfl⟩) hHeld ?_
      try simp only [Act.put, List.setIfInBounds_toArray, List.set_cons_zero, List.set_cons_succ]
      refine take2 rfl (i := 26) (v := .bool true) (d := 50) rfl rfl (by kernel_rfl) (by kernel_rfl) (by kernel_rfl) (fun _ _ _ h => h) (Or.inl ⟨by rfl, ?_⟩) hHeld ?_
      · (intro W hW; (try dsimp only at hW); go_simp)
      try simp only [Act.put, List.setIfInBounds_toArray, List.set_cons_zero, List.set_cons_succ]
      refine take2 rfl (i := 27) (v := .bool true) (d := 51) rfl rfl (by kernel_rfl) (by kernel_rfl) (by kernel_rfl) (fun _ _ _ h => h) (Or.inl ⟨by rfl, ?_⟩) hHeld ?_
      · (intro W hW; (try dsimp only at hW); go_simp)
      try simp only [Act.put, List.setIfInBounds_toArray, List.set_cons_zero, List.set_cons_succ]
      refine take2 rfl (i := 28) (v := .bool true) (d := 2) rfl rfl (by kernel_rfl) (by kernel_rfl) (by kernel_rfl) (fun _ _ _ h => h) (Or.inl ⟨by rfl, ?_⟩) hHeld ?_
      · (intro W hW; (try dsimp only at hW); go_simp)
      try simp only [Act.put, List.setIfInBounds_toArray, List.set_cons_zero, List.set_cons_succ]
      refine wpAnyH_done (by kernel_rfl) ?_ _
      all_goals go_wp2
      all_goals exact bodyPost_ret (v := .bool true) (by simp [results, Try.results5, go_sem]) rfl ⟨rfl, nextB UW.out B7.out⟩
    | some p =>
      obtain ⟨v3, rfl, P3'⟩ := D3.yes p hD
      obtain ⟨F, en, g⟩ := fit_dcd ZH.out.ok (by omega) hD
      have HF : Hid _ := F
      have HE : Hid _ := en
      have HD : Hid _ := hD
      obtain ⟨aq, mq, cq, dq, nq, fq, gq, oq, hq, rfl, _, _, _⟩ := P3'.ex
      have P3 : Hid _ := P3'
      clear D3 hD F en g P3'
      have L4 : Hid _ := And.intro (allocB w3 (.cells #[.bool p.leaf, .slice aq mq cq, .slice dq nq fq, .slice gq oq hq] 26)) (B4.new w3 (.bool p.leaf) (.slice aq mq cq) (.slice dq nq fq) (.slice gq oq hq) 26)
      go_upto_region 6 with fail
      generalize (w3.alloc (.cells #[.bool p.leaf, .slice aq mq cq, .slice dq nq fq, .slice gq oq hq] 26)) = w4 at *
      go_wp2_with fail
      refine Calls.mono (KK.out w4 L4.out.1) ?_
      rintro e w5 D5
      obtain ⟨v5, rfl, P5'⟩ := D5.yes p HD.out
      obtain ⟨ak, mk, ck, dk, nk, fk, gk, ok, hk, rfl, _, _, _⟩ := P5'.ex
      have P5 : Hid _ := P5'
      have L6 : Hid _ := And.intro (allocB w5 (.cells #[.bool p.leaf, .slice ak mk ck, .slice dk nk fk, .slice gk ok hk] 35)) (B4.new w5 (.bool p.leaf) (.slice ak mk ck) (.slice dk nk fk) (.slice gk ok hk) 35)
      have E5 : Hid (Below w4.heap.size w4 w5) := D5.bel
      clear D5 P5'
      go_upto_region 7 with fail
      generalize (w5.alloc (.cells #[.bool p.leaf, .slice ak mk ck, .slice dk nk fk, .slice gk ok hk] 35)) = w6 at *
      have U3 : Hid (Below w3.heap.size w3 w6) := nextB (nextB L4.out.1 E5.out) L6.out.1
      have UW : Hid (Below w.heap.size w w6) := nextB B3.out U3.out
      have SS : Hid (∀ W, Below w6.heap.size w6 W → W.cell? ⟨w3.heap.size, 0, none⟩ = some (.bool p.leaf) ∧ W.cell? ⟨w3.heap.size, 1, none⟩ = some (.slice aq mq cq) ∧ W.cell? ⟨w3.heap.size, 2, none⟩ = some (.slice dq nq fq) ∧ W.cell? ⟨w3.heap.size, 3, none⟩ = some (.slice gq oq hq) ∧ W.cell? ⟨w5.heap.size, 0, none⟩ = some (.bool p.leaf) ∧ W.cell? ⟨w5.heap.size, 1, none⟩ = some (.slice ak mk ck) ∧ W.cell? ⟨w5.heap.size, 2, none⟩ = some (.slice dk nk fk) ∧ W.cell? ⟨w5.heap.size, 3, none⟩ = some (.slice gk ok hk) ∧ (convert 30 9 (.slice a n cap)).run Try.prog W = .ok (.string (strOfNums zs)) W) := fun W b => by
        have q := ((L4.out.2.below E5.out).below L6.out.1).below b
        have r := L6.out.2.below b
        exact ⟨q.a0, q.a1, q.a2, q.a3, r.a0, r.a1, r.a2, r.a3, ((Z3.out.below U3.out).below b).str⟩
      have K1 : Hid _ := fun (W : World) (b : Below w6.heap.size w6 W) => same_any _ _ p W ((P3.out.below U3.out).below b) ((P5.out.below L6.out.1).below b) HF.out.bd
      have K2 : Hid _ := fun (W : World) (b : Below w6.heap.size w6 W) => Encode_any _ p W ((P3.out.below U3.out).below b) HF.out
      rw [HE.out] at K2
      have S0 := SS.out w6.drew (Below.refl _ _).drew
      clear P3 P5 L4 L6 E5 Z3 KK
      refine wp_region_held_drew (S := (fun W => W.cell? ⟨w3.heap.size, 0, none⟩ = some (.bool p.leaf) ∧ W.cell? ⟨w3.heap.size, 1, none⟩ = some (.slice aq mq cq) ∧ W.cell? ⟨w3.heap.size, 2, none⟩ = some (.slice dq nq fq) ∧ W.cell? ⟨w3.heap.size, 3, none⟩ = some (.slice gq oq hq) ∧ W.cell? ⟨w5.heap.size, 0, none⟩ = some (.bool p.leaf) ∧ W.cell? ⟨w5.heap.size, 1, none⟩ = some (.slice ak mk ck) ∧ W.cell? ⟨w5.heap.size, 2, none⟩ = some (.slice dk nk fk) ∧ W.cell? ⟨w5.heap.size, 3, none⟩ = some (.slice gk ok hk) ∧ (convert 30 9 (.slice a n cap)).run Try.prog W = .ok (.string (strOfNums zs)) W)) (by kernel_rfl) S0 (fun hHeld => ?_)
      refine take2 rfl (i := 0) (v := .bool true) (d := 24) rfl rfl (by kernel_rfl) (by kernel_rfl) (by kernel_rfl) (fun _ _ _ h => h) (Or.inl ⟨by rfl, ?_⟩) hHeld ?_
      · (intro W hW; (try dsimp only at hW); go_simp)
      try simp only [Act.put, List.setIfInBounds_toArray, List.set_cons_zero, List.set_cons_succ]
      refine take2 rfl (i := 1) (v := .int .i64 0) (d := 25) rfl rfl (by kernel_rfl) (by kernel_rfl) (by kernel_rfl) (fun _ _ _ h => h) (Or.inl ⟨by rfl, ?_⟩) hHeld ?_
      · (intro W hW; (try dsimp only at hW); go_simp)
      try simp only [Act.put, List.setIfInBounds_toArray, List.set_cons_zero, List.set_cons_succ]
      refine take2 rfl (i := 2) (v := .bool true) (d := 26) rfl rfl (by kernel_rfl) (by kernel_rfl) (by kernel_rfl) (fun _ _ _ h => h) (Or.inl ⟨by rfl, ?_⟩) hHeld ?_
      · (intro W hW; (try dsimp only at hW); go_simp)
      try simp only [Act.put, List.setIfInBounds_toArray, List.set_cons_zero, List.set_cons_succ]
      refine take2 rfl (i := 3) (v := .bool true) (d := 27) rfl rfl (by kernel_rfl) (by kernel_rfl) (by kernel_rfl) (fun _ _ _ h => h) (Or.inl ⟨by rfl, ?_⟩) hHeld ?_
      · (intro W hW; (try dsimp only at hW); go_simp)
      try simp only [Act.put, List.setIfInBounds_toArray, List.set_cons_zero, List.set_cons_succ]
      refine take2 rfl (i := 4) (v := .bool true) (d := 28) rfl rfl (by kernel_rfl) (by kernel_rfl) (by kernel_rfl) (fun _ _ _ h => h) (Or.inl ⟨by rfl, ?_⟩) hHeld ?_
      · (intro W hW; (try dsimp only at hW); go_simp)
      try simp only [Act.put, List.setIfInBounds_toArray, List.set_cons_zero, List.set_cons_succ]
      refine take2 rfl (i := 5) (v := .bool true) (d := 29) rfl rfl (by kernel_rfl) (by kernel_rfl) (by kernel_rfl) (fun _ _ _ h => h) (Or.inl ⟨by rfl, ?_⟩) hHeld ?_
      · (intro W hW; (try dsimp only at hW); go_simp)
      try simp only [Act.put, List.setIfInBounds_toArray, List.set_cons_zero, List.set_cons_succ]
      refine take2 rfl (i := 6) (v := .bool true) (d := 30) rfl rfl (by kernel_rfl) (by kernel_rfl) (by kernel_rfl) (fun _ _ _ h => h) (Or.inl ⟨by rfl, ?_⟩) hHeld ?_
      · (intro W hW; (try dsimp only at hW); go_simp)
      try simp only [Act.put, List.setIfInBounds_toArray, List.set_cons_zero, List.set_cons_succ]
      refine take2 rfl (i := 7) (v := undef) (d := 31) rfl rfl (by kernel_rfl) (by kernel_rfl) (by kernel_rfl) (fun _ _ _ h => h) (Or.inr ⟨by rfl, rfl⟩) hHeld ?_
      try simp only [Act.put, List.setIfInBounds_toArray, List.set_cons_zero, List.set_cons_succ]
      refine take2 rfl (i := 8) (v := undef) (d := 32) rfl rfl (by kernel_rfl) (by kernel_rfl) (by kernel_rfl) (fun _ _ _ h => h) (Or.inr ⟨by rfl, rfl⟩) hHeld ?_
      try simp only [Act.put, List.setIfInBounds_toArray, List.set_cons_zero, List.set_cons_succ]
      refine take2 rfl (i := 9) (v := .bool true) (d := 33) rfl rfl (by kernel_rfl) (by kernel_rfl) (by kernel_rfl) (fun _ _ _ h => h) (Or.inl ⟨by rfl, ?_⟩) hHeld ?_
      · (intro W hW; (try dsimp only at hW); go_simp)
      try simp only [Act.put, List.setIfInBounds_toArray, List.set_cons_zero, List.set_cons_succ]
      refine take2 rfl (i := 10) (v := .bool true) (d := 34) rfl rfl (by kernel_rfl) (by kernel_rfl) (by kernel_rfl) (fun _ _ _ h => h) (Or.inl ⟨by rfl, ?_⟩) hHeld ?_
      · (intro W hW; (try dsimp only at hW); go_simp)
      try simp only [Act.put, List.setIfInBounds_toArray, List.set_cons_zero, List.set_cons_succ]
      refine take2 rfl (i := 11) (v := .bool true) (d := 35) rfl rfl (by kernel_rfl) (by kernel_rfl) (by kernel_rfl) (fun _ _ _ h => h) (Or.inl ⟨by rfl, ?_⟩) hHeld ?_
      · (intro W hW; (try dsimp only at hW); go_simp)
      try simp only [Act.put, List.setIfInBounds_toArray, List.set_cons_zero, List.set_cons_succ]
      refine take2 rfl (i := 12) (v := (.agg #[.bool p.leaf, .slice aq mq cq, .slice dq nq fq, .slice gq oq hq])) (d := 36) rfl rfl (by kernel_rfl) (by kernel_rfl) (by kernel_rfl) (fun _ _ _ h => h) (Or.inl ⟨by rfl, ?_⟩) hHeld ?_
      · (intro W hW; (try dsimp only at hW); go_simp)
      try simp only [Act.put, List.setIfInBounds_toArray, List.set_cons_zero, List.set_cons_succ]
      refine take2 rfl (i := 13) (v := (.agg #[.bool p.leaf, .slice ak mk ck, .slice dk nk fk, .slice gk ok hk])) (d := 37) rfl rfl (by kernel_rfl) (by kernel_rfl) (by kernel_rfl) (fun _ _ _ h => h) (Or.inl ⟨by rfl, ?_⟩) hHeld ?_
      · (intro W hW; (try dsimp only at hW); go_simp)
      try simp only [Act.put, List.setIfInBounds_toArray, List.set_cons_zero, List.set_cons_succ]
      refine wpAnyH_ready (rs := [14]) (by kernel_rfl) (by simp) ?_
      refine cons2 rfl rfl (fun K hK => ?_)
      go_simp
      (go_at_call 19; refine Calls.mono (K1.out _ (Below.refl _ _).drew) ?_; rintro e w7 ⟨rfl, b7⟩; have B7 : Hid (Below w6.heap.size w6 w7) := nextB (Below.refl _ _).drew b7; have S7 := SS.out w7 B7.out)
      go_wp2_with fail
      refine hK.out _ _ S7 (fun hX => ?_)
      clear hK K hHeld
      have hHeld := hX
      clear hX
      try simp only [Act.put, List.setIfInBounds_toArray, List.set_cons_zero, List.set_cons_succ]
      refine take2 rfl (i := 15) (v := .bool true) (d := 39) rfl rfl (by kernel_rfl) (by kernel_rfl) (by kernel_rfl) (fun _ _ _ h => h) (Or.inl ⟨by rfl, ?_⟩) hHeld ?_
      · (intro W hW; (try dsimp only at hW); go_simp)
      try simp only [Act.put, List.setIfInBounds_toArray, List.set_cons_zero, List.set_cons_succ]
      refine take2 rfl (i := 16) (v := .bool true) (d := 40) rfl rfl (by kernel_rfl) (by kernel_rfl) (by kernel_rfl) (fun _ _ _ h => h) (Or.inl ⟨by rfl, ?_⟩) hHeld ?_
      · (intro W hW; (try dsimp only at hW); go_simp)
      try simp only [Act.put, List.setIfInBounds_toArray, List.set_cons_zero, List.set_cons_succ]
      refine take2 rfl (i := 17) (v := .bool true) (d := 41) rfl rfl (by kernel_rfl) (by kernel_rfl) (by kernel_rfl) (fun _ _ _ h => h) (Or.inl ⟨by rfl, ?_⟩) hHeld ?_
      · (intro W hW; (try dsimp only at hW); go_simp)
      try simp only [Act.put, List.setIfInBounds_toArray, List.set_cons_zero, List.set_cons_succ]
      refine take2 rfl (i := 18) (v := .bool false) (d := 42) rfl rfl (by kernel_rfl) (by kernel_rfl) (by kernel_rfl) (fun _ _ _ h => h) (Or.inl ⟨by rfl, ?_⟩) hHeld ?_
      · (intro W hW; (try dsimp only at hW); go_simp)
      try simp only [Act.put, List.setIfInBounds_toArray, List.set_cons_zero, List.set_cons_succ]
      refine take2 rfl (i := 19) (v := .bool false) (d := 43) rfl rfl (by kernel_rfl) (by kernel_rfl) (by kernel_rfl) (fun _ _ _ h => h) (Or.inl ⟨by rfl, ?_⟩) hHeld ?_
      · (intro W hW; (try dsimp only at hW); go_simp)
      try simp only [Act.put, List.setIfInBounds_toArray, List.set_cons_zero, List.set_cons_succ]
      refine take2 rfl (i := 20) (v := (.agg #[.bool p.leaf, .slice aq mq cq, .slice dq nq fq, .slice gq oq hq])) (d := 44) rfl rfl (by kernel_rfl) (by kernel_rfl) (by kernel_rfl) (fun _ _ _ h => h) (Or.inl ⟨by rfl, ?_⟩) hHeld ?_
      · (intro W hW; (try dsimp only at hW); go_simp)
      try simp only [Act.put, List.setIfInBounds_toArray, List.set_cons_zero, List.set_cons_succ]
      refine take2 rfl (i := 23) (v := .slice a n cap) (d := 47) rfl rfl (by kernel_rfl) (by kernel_rfl) (by kernel_rfl) (fun _ _ _ h => h) (Or.inl ⟨by rfl, ?_⟩) hHeld ?_
      · (intro W hW; (try dsimp only at hW); go_simp)
      try simp only [Act.put, List.setIfInBounds_toArray, List.set_cons_zero, List.set_cons_succ]
      refine take2 rfl (i := 24) (v := .string (strOfNums zs)) (d := 48) rfl rfl (by kernel_rfl) (by kernel_rfl) (by kernel_rfl) (fun _ _ _ h => h) (Or.inl ⟨by rfl, ?_⟩) hHeld ?_
      · (intro W hW; (try dsimp only at hW); go_simp)
      try simp only [Act.put, List.setIfInBounds_toArray, List.set_cons_zero, List.set_cons_succ]
      refine wpAnyH_ready (rs := [21]) (by kernel_rfl) (by simp) ?_
      refine cons2 rfl rfl (fun K hK => ?_)
      go_simp
      (go_at_call 16; refine Calls.mono (K2.out _ B7.out) ?_; rintro e w8 ⟨⟨v8, rfl, o8⟩, b8⟩; obtain ⟨a8, c8, rfl, y9, _, _⟩ := o8.by; have B8 : Hid (Below w6.heap.size w6 w8) := nextB B7.out b8; have S8 := SS.out w8 B8.out)
      go_wp2_with fail
      refine hK.out _ _ S8 (fun hX => ?_)
      clear hK K hHeld
      have hHeld := hX
      clear hX
      try simp only [Act.put, List.setIfInBounds_toArray, List.set_cons_zero, List.set_cons_succ]
      refine wpAnyH_strong (S' := fun W => Below w8.heap.size w8 W) (fun W b => SS.out W (nextB B8.out b)) _ _ _ _ ?_
      clear hHeld
      have hHeld : Below w8.heap.size w8 w8 := Below.refl _ _
      have ST : Hid (∀ W, Below w8.heap.size w8 W → (convert 30 9 (.slice a8 n c8)).run Try.prog W = .ok (.string (strOfNums zs)) W) := fun W b => by have st := (y9.below b).str; rw [zl] at st; exact st
      refine take2 rfl (i := 22) (v := .string (strOfNums zs)) (d := 46) rfl rfl (by kernel_rfl) (by kernel_rfl) (by kernel_rfl) (fun _ _ _ h => h) (Or.inl ⟨by rfl, ?_⟩) hHeld ?_
      · (intro W hW; have st := ST.out W hW; go_simp)
      try simp only [Act.put, List.setIfInBounds_toArray, List.set_cons_zero, List.set_cons_succ]
      refine take2 rfl (i := 25) (v := .bool true) (d := 49) rfl rfl (by kernel_rfl) (by kernel_rfl) (by kernel_rfl) (fun _ _ _ h => h) (Or.inl ⟨by rfl, ?_⟩) hHeld ?_
      · (intro W hW; (try dsimp only at hW); go_simp)
      try simp only [Act.put, List.setIfInBounds_toArray, List.set_cons_zero, List.set_cons_succ]
      refine take2 rfl (i := 26) (v := .bool true) (d := 50) rfl rfl (by kernel_rfl) (by kernel_rfl) (by kernel_rfl) (fun _ _ _ h => h) (Or.inl ⟨by rfl, ?_⟩) hHeld ?_
      · (intro W hW; (try dsimp only at hW); go_simp)
      try simp only [Act.put, List.setIfInBounds_toArray, List.set_cons_zero, List.set_cons_succ]
      refine take2 rfl (i := 27) (v := .bool true) (d := 51) rfl rfl (by kernel_rfl) (by kernel_rfl) (by kernel_rfl) (fun _ _ _ h => h) (Or.inl ⟨by rfl, ?_⟩) hHeld ?_
      · (intro W hW; (try dsimp only at hW); go_simp)
      try simp only [Act.put, List.setIfInBounds_toArray, List.set_cons_zero, List.set_cons_succ]
      refine take2 rfl (i := 28) (v := .bool true) (d := 2) rfl rfl (by kernel_rfl) (by kernel_rfl) (by kernel_rfl) (fun _ _ _ h => h) (Or.inl ⟨by rfl, ?_⟩) hHeld ?_
      · (intro W hW; (try dsimp only at hW); go_simp)
      try simp only [Act.put, List.setIfInBounds_toArray, List.set_cons_zero, List.set_cons_succ]
      refine wpAnyH_done (by kernel_rfl) ?_ _
      all_goals go_wp2
      all_goals exact bodyPost_ret (v := .bool true) (by simp [results, Try.results5, go_sem]) rfl ⟨rfl, nextB UW.out B8.out⟩


set_option maxRecDepth 100000 in
theorem lifted (os : Os) (started : os.Started) (H : Type) (enc : TypeId × Value → H) :
    ReturnsInHanded {} Try.checked os 5 .any (Rows.pageReadsSpec.pre6 enc Try.prog Try.f5 Rows.pageReadsRow.domain false) (Rows.pageReadsSpec.post enc Try.prog Try.f5 false true false false) := by
  refine returnsInHanded_of_change (C := Try.checked) own started (by kernel_rfl) Try.func5
    (ChangeSpec.witness6 (enc := enc) (C := Try.checked) false ⟨#[], #[.slice none 0 0], []⟩ 8 (by kernel_rfl) (by kernel_rfl) (by kernel_rfl) (by kernel_rfl)) ?_
  intro W base args ds gs before hval0 hW hcnd _
  have hval : ∀ (j : Nat) t v, Try.f5.params[j]? = some t → args[j]? = some v → Value.okWide Try.prog W .any base t v := hval0
  have hW' := hW
  obtain ⟨p, q, hA0, hV, rfl, hfz, hnd⟩ := hW
  have hA : DataW.TrodAll enc Try.prog W 0 (fun _ => true) true Try.f5.params.toList args.toList ds p := hA0
  rw [Try.params5] at hA hval
  obtain ⟨v0, vs0, d0, ds0, p0, q0, hargs, rfl, rfl, h0, r0⟩ := trodAll_cons hA
  obtain ⟨rfl, rfl, rfl⟩ := trodAll_nil r0
  obtain rfl : args = #[v0] := by cases args; simp_all
  obtain ⟨rfl, rfl⟩ := trodVars_none hV
  obtain ⟨a0, len0, cap0, rfl⟩ := okWide_slice Try.underlying30 (hval 0 30 v0 rfl rfl)
  have k0 := h0
  have lt0 : ∀ x ∈ p0, x.block < W.heap.size := by obtain ⟨m, hm⟩ := k0; exact DataW.trod_lt m _ _ _ hm
  obtain ⟨z0, w0⟩ : ∃ zs, By W a0 len0 cap0 zs := by
    obtain ⟨fuel, hf⟩ := h0
    exact by_of hf
  clear hA0 hval0
  refine (walk W a0 len0 cap0 z0 w0).mono fun e W' ⟨he, bel⟩ => ?_
  subst he
  exact ⟨_, rfl, _, _, _, [], _, [], hW', trodAll_mk1 (shut_bool Try.underlying4 _), (trodAll_cons_mk (Below.trod laidOut (by kernel_rfl) (of_decide_eq_true (by kernel_rfl)) k0 bel lt0) trodAll_mk0), rfl, bel.frame _, fun h => by cases h⟩

theorem over : Rows.pageReadsRow.holds Try.pinned (OpenSpec.ofChange Rows.pageReadsSpec) :=
  OpenClaim.holds_of_wide 5 Try.f5 rfl rfl rfl rfl rfl rfl rfl ⟨rfl, rfl, rfl, rfl, rfl⟩ rfl rfl rfl rfl rfl (by kernel_rfl) Try.func5 (by kernel_rfl)
    (of_decide_eq_true (by kernel_rfl)) (by unfold Func.isWrapper; first | (rw [if_pos (by decide +kernel)]; kernel_rfl) | (rw [if_neg (by decide +kernel)]; exact ⟨rfl, rfl⟩))
    (fun os started H enc _ => lifted os started H enc)

end Go.Proofs.Ytfedcghkohfhlaa.pageReads
namespace Go.Proofs.Ytfedcghkohfhlaa

theorem PageReads_holds : Rows.PageReadsSaid := pageReads.over

end Go.Proofs.Ytfedcghkohfhlaa
