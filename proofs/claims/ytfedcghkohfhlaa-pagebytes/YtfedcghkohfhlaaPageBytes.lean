/- Proved: the law PageBytes of package publicanlaw6 returns true for every page, whatever memory it starts in, on every schedule; no condition. -/
import Derived.Test.YtfedcghkohfhlaaAw
import Derived.Test.YtfedcghkohfhlaaSh
import Derived.Test.YtfedcghkohfhlaaSc
import Derived.Test.YtfedcghkohfhlaaSe
import Derived.Test.YtfedcghkohfhlaaRg
import Derived.Test.YtfedcghkohfhlaaV5
import Derived.Test.YtfedcghkohfhlaaU2
namespace Go.Proofs.Ytfedcghkohfhlaa.pageBytes
open Go.ChangeShapes Go.WideShapes Go.ChangeAt Go.RowKit Go.Deep Go.Joins Go.Maps
set_option linter.unusedVariables false
set_option linter.unusedSimpArgs false

set_option maxRecDepth 100000 in
set_option maxHeartbeats 4000000 in
theorem walk (w : World) (v : Value) (p : Pg) (h : Pv w v p) (s1 : Short p.keys) (s2 : Short p.vals) : Calls Try.prog 4 #[v] w fun e w' => e = .returned (.bool true) ∧ Below w.heap.size w w' := by
  have HK := h.kid
  have HP : Hid _ := h
  have SH : Hid _ := And.intro s1 s2
  obtain ⟨ap, mp, cp, dp, np, fp, gp, op, hp, rfl, _, _, _⟩ := h.ex
  clear s1 s2 h
  have L0 : Hid _ := And.intro (allocB w (.cells #[.bool p.leaf, .slice ap mp cp, .slice dp np fp, .slice gp op hp] 26)) (B4.new w (.bool p.leaf) (.slice ap mp cp) (.slice dp np fp) (.slice gp op hp) 26)
  go_enter Try.func4, Try.ntmps4
  go_upto_region 1 with fail
  generalize w.alloc (.cells #[.bool p.leaf, .slice ap mp cp, .slice dp np fp, .slice gp op hp] 26) = w0 at *
  go_wp2_with fail
  refine Calls.mono (awake_any w0) ?_
  rintro e w1 ⟨rfl, b1⟩
  have P1 : Hid _ := HP.out.below (nextB L0.out.1 b1)
  have L1 : Hid _ := L0.out.2.below b1
  have B1 : Hid (Below w.heap.size w w1) := nextB L0.out.1 b1
  clear L0 HP b1
  obtain ⟨x0, x1, x2, x3⟩ := L1.out
  go_wp2_with fail
  refine Calls.mono (great_any _ p w1 P1.out SH.out.1 SH.out.2) ?_
  rintro e w2 ⟨⟨g, rfl, SM⟩, b2⟩
  cases g with
  | true =>
    clear SM
    go_wp2
    exact bodyPost_ret (v := .bool true) (by simp [results, Try.results4, go_sem]) rfl ⟨rfl, nextB B1.out b2⟩
  | false =>
    have SM' : Hid _ := SM rfl
    clear SM x0 x1 x2 x3
    have P2 : Hid _ := P1.out.below b2
    have L2 : Hid _ := L1.out.below b2
    have B2 : Hid (Below w.heap.size w w2) := nextB B1.out b2
    clear P1 L1 B1 b2 SH
    obtain ⟨x0, x1, x2, x3⟩ := L2.out
    have BD : Hid _ := SM'.out.bd HK
    go_wp2_with fail
    refine Calls.mono (own_page _ p w2 P2.out BD.out) ?_
    rintro e w3 ⟨⟨v3, rfl, Q3'⟩, b3⟩
    clear x0 x1 x2 x3
    have Q3 : Hid _ := Q3'
    obtain ⟨ak, mk, ck, dk, nk, fk, gk, ok, hk, rfl, _, _, _⟩ := Q3'.ex
    clear Q3'
    have P3 : Hid _ := P2.out.below b3
    have L3 : Hid _ := L2.out.below b3
    have B3 : Hid (Below w.heap.size w w3) := nextB B2.out b3
    clear P2 L2 B2 b3
    have M3 : Hid _ := And.intro (allocB w3 (.cells #[.bool p.leaf, .slice ak mk ck, .slice dk nk fk, .slice gk ok hk] 35)) (B4.new w3 (.bool p.leaf) (.slice ak mk ck) (.slice dk nk fk) (.slice gk ok hk) 35)
    go_upto_region 6 with fail
    generalize w3.alloc (.cells #[.bool p.leaf, .slice ak mk ck, .slice dk nk fk, .slice gk ok hk] 35) = w4 at *
    have P4 : Hid _ := P3.out.below M3.out.1
    have Q4 : Hid _ := Q3.out.below M3.out.1
    have L4 : Hid _ := L3.out.below M3.out.1
    have B4' : Hid (Below w.heap.size w w4) := nextB B3.out M3.out.1
    have M4 : Hid _ := M3.out.2
    clear P3 Q3 L3 B3 M3
    obtain ⟨x0, x1, x2, x3⟩ := M4.out
    go_wp2_with fail
    refine Calls.mono (kGood_any _ p w4 Q4.out BD.out) ?_
    rintro e w5 ⟨rfl, b5⟩
    clear x0 x1 x2 x3
    have P5 : Hid _ := P4.out.below b5
    have Q5 : Hid _ := Q4.out.below b5
    have L5 : Hid _ := L4.out.below b5
    have M5 : Hid _ := M4.out.below b5
    have B5 : Hid (Below w.heap.size w w5) := nextB B4'.out b5
    clear P4 Q4 L4 M4 B4' b5
    obtain ⟨x0, x1, x2, x3⟩ := L5.out
    go_wp2_with fail
    refine Calls.mono (Good_any _ p w5 P5.out BD.out) ?_
    rintro e w6 ⟨rfl, b6⟩
    clear x0 x1 x2 x3
    have P6 : Hid _ := P5.out.below b6
    have Q6 : Hid _ := Q5.out.below b6
    have L6 : Hid _ := L5.out.below b6
    have M6 : Hid _ := M5.out.below b6
    have B6 : Hid (Below w.heap.size w w6) := nextB B5.out b6
    clear P5 Q5 L5 M5 B5 b6
    cases hG : goodB p with
    | false =>
      go_wp2
      exact bodyPost_ret (v := .bool true) (by simp [results, Try.results4, go_sem]) rfl ⟨rfl, B6.out⟩
    | true =>
      have FT : Hid _ := SM'.out.fit HK hG
      have LE : Hid _ := SM'.out.len HK
      have HD : Hid _ := dcd_encP hG FT.out
      clear hG
      obtain ⟨x0, x1, x2, x3⟩ := L6.out
      go_wp2_with fail
      refine Calls.mono (Encode_any _ p w6 P6.out FT.out) ?_
      rintro e w6b ⟨⟨v6, rfl, o6⟩, b7⟩
      obtain ⟨a5, c5, rfl, y6, _, _⟩ := o6.by
      clear x0 x1 x2 x3 o6
      have Y6 : Hid _ := y6
      clear y6
      have P6b : Hid _ := P6.out.below b7
      have Q6b : Hid _ := Q6.out.below b7
      have L6b : Hid _ := L6.out.below b7
      have M6b : Hid _ := M6.out.below b7
      have B6b : Hid (Below w.heap.size w w6b) := nextB B6.out b7
      clear P6 Q6 L6 M6 B6 b7
      go_wp2_with fail
      refine Calls.mono (Decode_any a5 _ c5 (encP p) w6b Y6.out (by have := LE.out; omega)) ?_
      rintro e w7 D7
      obtain ⟨v7, rfl, R7'⟩ := D7.yes p HD.out
      have b8 := D7.bel
      have R7 : Hid _ := R7'
      obtain ⟨aq, mq, cq, dq, nq, fq, gq, oq, hq, rfl, _, _, _⟩ := R7'.ex
      clear R7' D7
      have Y7 : Hid _ := Y6.out.below b8
      have P7 : Hid _ := P6b.out.below b8
      have Q7 : Hid _ := Q6b.out.below b8
      have L7 : Hid _ := L6b.out.below b8
      have M7 : Hid _ := M6b.out.below b8
      have B7 : Hid (Below w.heap.size w w7) := nextB B6b.out b8
      clear P6b Q6b L6b M6b B6b b8 Y6
      have N7 : Hid _ := And.intro (allocB w7 (.cells #[.bool p.leaf, .slice aq mq cq, .slice dq nq fq, .slice gq oq hq] 26)) (B4.new w7 (.bool p.leaf) (.slice aq mq cq) (.slice dq nq fq) (.slice gq oq hq) 26)
      go_upto_region 13 with fail
      generalize w7.alloc (.cells #[.bool p.leaf, .slice aq mq cq, .slice dq nq fq, .slice gq oq hq] 26) = w8 at *
      have Y8 : Hid _ := Y7.out.below N7.out.1
      have P8 : Hid _ := P7.out.below N7.out.1
      have Q8 : Hid _ := Q7.out.below N7.out.1
      have L8 : Hid _ := L7.out.below N7.out.1
      have M8 : Hid _ := M7.out.below N7.out.1
      have R8 : Hid _ := R7.out.below N7.out.1
      have B8 : Hid (Below w.heap.size w w8) := nextB B7.out N7.out.1
      have N8 : Hid _ := N7.out.2
      clear Y7 P7 Q7 L7 M7 R7 B7 N7
      have SS : Hid (∀ W, Below w8.heap.size w8 W → W.cell? ⟨w.heap.size, 0, none⟩ = some (.bool p.leaf) ∧ W.cell? ⟨w.heap.size, 1, none⟩ = some (.slice ap mp cp) ∧ W.cell? ⟨w.heap.size, 2, none⟩ = some (.slice dp np fp) ∧ W.cell? ⟨w.heap.size, 3, none⟩ = some (.slice gp op hp) ∧ W.cell? ⟨w3.heap.size, 0, none⟩ = some (.bool p.leaf) ∧ W.cell? ⟨w3.heap.size, 1, none⟩ = some (.slice ak mk ck) ∧ W.cell? ⟨w3.heap.size, 2, none⟩ = some (.slice dk nk fk) ∧ W.cell? ⟨w3.heap.size, 3, none⟩ = some (.slice gk ok hk) ∧ W.cell? ⟨w7.heap.size, 0, none⟩ = some (.bool p.leaf) ∧ W.cell? ⟨w7.heap.size, 1, none⟩ = some (.slice aq mq cq) ∧ W.cell? ⟨w7.heap.size, 2, none⟩ = some (.slice dq nq fq) ∧ W.cell? ⟨w7.heap.size, 3, none⟩ = some (.slice gq oq hq) ∧ (convert 30 9 (.slice a5 (encP p).length c5)).run Try.prog W = .ok (.string (strOfNums (encP p))) W) := fun W b => by
        have q := L8.out.below b
        have r := M8.out.below b
        have s := N8.out.below b
        exact ⟨q.a0, q.a1, q.a2, q.a3, r.a0, r.a1, r.a2, r.a3, s.a0, s.a1, s.a2, s.a3, (Y8.out.below b).str⟩
      have KE : Hid _ := fun (W : World) (b : Below w8.heap.size w8 W) => kEncode_any _ p W (Q8.out.below b) FT.out
      have KB : Hid _ := fun (W : World) (b : Below w8.heap.size w8 W) => Bytes_any _ p W (P8.out.below b) FT.out
      have KS : Hid _ := fun (W : World) (b : Below w8.heap.size w8 W) => same_any _ _ p W (R8.out.below b) (Q8.out.below b) BD.out
      have S0 := SS.out w8.drew (Below.refl _ _).drew
      clear Y8 P8 Q8 L8 M8 N8 R8
      refine wp_region_held_drew (S := (fun W => W.cell? ⟨w.heap.size, 0, none⟩ = some (.bool p.leaf) ∧ W.cell? ⟨w.heap.size, 1, none⟩ = some (.slice ap mp cp) ∧ W.cell? ⟨w.heap.size, 2, none⟩ = some (.slice dp np fp) ∧ W.cell? ⟨w.heap.size, 3, none⟩ = some (.slice gp op hp) ∧ W.cell? ⟨w3.heap.size, 0, none⟩ = some (.bool p.leaf) ∧ W.cell? ⟨w3.heap.size, 1, none⟩ = some (.slice ak mk ck) ∧ W.cell? ⟨w3.heap.size, 2, none⟩ = some (.slice dk nk fk) ∧ W.cell? ⟨w3.heap.size, 3, none⟩ = some (.slice gk ok hk) ∧ W.cell? ⟨w7.heap.size, 0, none⟩ = some (.bool p.leaf) ∧ W.cell? ⟨w7.heap.size, 1, none⟩ = some (.slice aq mq cq) ∧ W.cell? ⟨w7.heap.size, 2, none⟩ = some (.slice dq nq fq) ∧ W.cell? ⟨w7.heap.size, 3, none⟩ = some (.slice gq oq hq) ∧ (convert 30 9 (.slice a5 (encP p).length c5)).run Try.prog W = .ok (.string (strOfNums (encP p))) W)) (by kernel_rfl) S0 (fun hHeld => ?_)
      refine take2 rfl (i := 0) (v := .slice a5 (encP p).length c5) (d := 29) rfl rfl (by kernel_rfl) (by kernel_rfl) (by kernel_rfl) (fun _ _ _ h => h) (Or.inl ⟨by rfl, ?_⟩) hHeld ?_
      · (intro W hW; (try dsimp only at hW); go_simp)
      try simp only [Act.put, List.setIfInBounds_toArray, List.set_cons_zero, List.set_cons_succ]
      refine take2 rfl (i := 1) (v := .string (strOfNums (encP p))) (d := 30) rfl rfl (by kernel_rfl) (by kernel_rfl) (by kernel_rfl) (fun _ _ _ h => h) (Or.inl ⟨by rfl, ?_⟩) hHeld ?_
      · (intro W hW; (try dsimp only at hW); go_simp)
      try simp only [Act.put, List.setIfInBounds_toArray, List.set_cons_zero, List.set_cons_succ]
      refine take2 rfl (i := 2) (v := (.agg #[.bool p.leaf, .slice ak mk ck, .slice dk nk fk, .slice gk ok hk])) (d := 31) rfl rfl (by kernel_rfl) (by kernel_rfl) (by kernel_rfl) (fun _ _ _ h => h) (Or.inl ⟨by rfl, ?_⟩) hHeld ?_
      · (intro W hW; (try dsimp only at hW); go_simp)
      try simp only [Act.put, List.setIfInBounds_toArray, List.set_cons_zero, List.set_cons_succ]
      refine wpAnyH_ready (rs := [3]) (by kernel_rfl) (by simp) ?_
      refine cons2 rfl rfl (fun K hK => ?_)
      go_simp
      (go_at_call 17; refine Calls.mono (KE.out _ (Below.refl _ _).drew) ?_; rintro e w9 ⟨⟨v9, rfl, o9⟩, b9⟩; obtain ⟨a9, c9, rfl, y9, _, _⟩ := o9.by; have B9 : Hid (Below w8.heap.size w8 w9) := nextB (Below.refl _ _).drew b9; have S9 := SS.out w9 B9.out)
      go_wp2_with fail
      refine hK.out _ _ S9 (fun hX => ?_)
      clear hK K hHeld
      have hHeld := hX
      clear hX
      try simp only [Act.put, List.setIfInBounds_toArray, List.set_cons_zero, List.set_cons_succ]
      refine wpAnyH_strong (S' := fun W => Below w9.heap.size w9 W) (fun W b => SS.out W (nextB B9.out b)) _ _ _ _ ?_
      clear hHeld
      have hHeld : Below w9.heap.size w9 w9 := Below.refl _ _
      have ST : Hid (∀ W, Below w9.heap.size w9 W → (convert 30 9 (.slice a9 (encP p).length c9)).run Try.prog W = .ok (.string (strOfNums (encP p))) W) := fun W b => (y9.below b).str
      refine take2 rfl (i := 4) (v := .string (strOfNums (encP p))) (d := 33) rfl rfl (by kernel_rfl) (by kernel_rfl) (by kernel_rfl) (fun _ _ _ h => h) (Or.inl ⟨by rfl, ?_⟩) hHeld ?_
      · (intro W hW; have st := ST.out W hW; go_simp)
      try simp only [Act.put, List.setIfInBounds_toArray, List.set_cons_zero, List.set_cons_succ]
      refine take2 rfl (i := 5) (v := .bool true) (d := 34) rfl rfl (by kernel_rfl) (by kernel_rfl) (by kernel_rfl) (fun _ _ _ h => h) (Or.inl ⟨by rfl, ?_⟩) hHeld ?_
      · (intro W hW; (try dsimp only at hW); go_simp)
      try simp only [Act.put, List.setIfInBounds_toArray, List.set_cons_zero, List.set_cons_succ]
      refine take2 rfl (i := 6) (v := .bool true) (d := 35) rfl rfl (by kernel_rfl) (by kernel_rfl) (by kernel_rfl) (fun _ _ _ h => h) (Or.inl ⟨by rfl, ?_⟩) hHeld ?_
      · (intro W hW; (try dsimp only at hW); go_simp)
      try simp only [Act.put, List.setIfInBounds_toArray, List.set_cons_zero, List.set_cons_succ]
      refine take2 rfl (i := 7) (v := (.agg #[.bool p.leaf, .slice ap mp cp, .slice dp np fp, .slice gp op hp])) (d := 36) rfl rfl (by kernel_rfl) (by kernel_rfl) (by kernel_rfl) (fun _ _ _ h => h) (Or.inl ⟨by rfl, ?_⟩) hHeld ?_
      · (intro W hW; obtain ⟨_, _, _, _, _, _, _, _, _, _, _, _, _⟩ := SS.out W (nextB B9.out hW); go_simp)
      try simp only [Act.put, List.setIfInBounds_toArray, List.set_cons_zero, List.set_cons_succ]
      refine take2 rfl (i := 9) (v := .slice a5 (encP p).length c5) (d := 38) rfl rfl (by kernel_rfl) (by kernel_rfl) (by kernel_rfl) (fun _ _ _ h => h) (Or.inl ⟨by rfl, ?_⟩) hHeld ?_
      · (intro W hW; (try dsimp only at hW); go_simp)
      try simp only [Act.put, List.setIfInBounds_toArray, List.set_cons_zero, List.set_cons_succ]
      refine take2 rfl (i := 10) (v := .int .i64 ((encP p).length : Nat)) (d := 39) rfl rfl (by kernel_rfl) (by kernel_rfl) (by kernel_rfl) (fun _ _ _ h => h) (Or.inl ⟨by rfl, ?_⟩) hHeld ?_
      · (intro W hW; (try dsimp only at hW); go_simp)
      try simp only [Act.put, List.setIfInBounds_toArray, List.set_cons_zero, List.set_cons_succ]
      refine wpAnyH_ready (rs := [8]) (by kernel_rfl) (by simp) ?_
      refine cons2 rfl rfl (fun K hK => ?_)
      go_simp
      (go_at_call 18; refine Calls.mono (KB.out _ B9.out) ?_; rintro e wa ⟨rfl, ba⟩; have Ba : Hid (Below w8.heap.size w8 wa) := nextB B9.out ba)
      go_wp2_with fail
      refine hK.out _ _ ba (fun hX => ?_)
      clear hK K hHeld
      have hHeld := hX
      clear hX
      try simp only [Act.put, List.setIfInBounds_toArray, List.set_cons_zero, List.set_cons_succ]
      refine take2 rfl (i := 11) (v := .bool true) (d := 40) rfl rfl (by kernel_rfl) (by kernel_rfl) (by kernel_rfl) (fun _ _ _ h => h) (Or.inl ⟨by rfl, ?_⟩) hHeld ?_
      · (intro W hW; (try dsimp only at hW); go_simp)
      try simp only [Act.put, List.setIfInBounds_toArray, List.set_cons_zero, List.set_cons_succ]
      refine take2 rfl (i := 12) (v := .bool true) (d := 41) rfl rfl (by kernel_rfl) (by kernel_rfl) (by kernel_rfl) (fun _ _ _ h => h) (Or.inl ⟨by rfl, ?_⟩) hHeld ?_
      · (intro W hW; (try dsimp only at hW); go_simp)
      try simp only [Act.put, List.setIfInBounds_toArray, List.set_cons_zero, List.set_cons_succ]
      refine take2 rfl (i := 13) (v := .bool true) (d := 42) rfl rfl (by kernel_rfl) (by kernel_rfl) (by kernel_rfl) (fun _ _ _ h => h) (Or.inl ⟨by rfl, ?_⟩) hHeld ?_
      · (intro W hW; (try dsimp only at hW); go_simp)
      try simp only [Act.put, List.setIfInBounds_toArray, List.set_cons_zero, List.set_cons_succ]
      refine take2 rfl (i := 14) (v := .int .i64 0) (d := 43) rfl rfl (by kernel_rfl) (by kernel_rfl) (by kernel_rfl) (fun _ _ _ h => h) (Or.inl ⟨by rfl, ?_⟩) hHeld ?_
      · (intro W hW; (try dsimp only at hW); go_simp)
      try simp only [Act.put, List.setIfInBounds_toArray, List.set_cons_zero, List.set_cons_succ]
      refine take2 rfl (i := 15) (v := .bool true) (d := 44) rfl rfl (by kernel_rfl) (by kernel_rfl) (by kernel_rfl) (fun _ _ _ h => h) (Or.inl ⟨by rfl, ?_⟩) hHeld ?_
      · (intro W hW; (try dsimp only at hW); go_simp)
      try simp only [Act.put, List.setIfInBounds_toArray, List.set_cons_zero, List.set_cons_succ]
      refine take2 rfl (i := 16) (v := .bool true) (d := 45) rfl rfl (by kernel_rfl) (by kernel_rfl) (by kernel_rfl) (fun _ _ _ h => h) (Or.inl ⟨by rfl, ?_⟩) hHeld ?_
      · (intro W hW; (try dsimp only at hW); go_simp)
      try simp only [Act.put, List.setIfInBounds_toArray, List.set_cons_zero, List.set_cons_succ]
      refine take2 rfl (i := 17) (v := .bool true) (d := 46) rfl rfl (by kernel_rfl) (by kernel_rfl) (by kernel_rfl) (fun _ _ _ h => h) (Or.inl ⟨by rfl, ?_⟩) hHeld ?_
      · (intro W hW; (try dsimp only at hW); go_simp)
      try simp only [Act.put, List.setIfInBounds_toArray, List.set_cons_zero, List.set_cons_succ]
      refine take2 rfl (i := 18) (v := (.agg #[.bool p.leaf, .slice aq mq cq, .slice dq nq fq, .slice gq oq hq])) (d := 47) rfl rfl (by kernel_rfl) (by kernel_rfl) (by kernel_rfl) (fun _ _ _ h => h) (Or.inl ⟨by rfl, ?_⟩) hHeld ?_
      · (intro W hW; obtain ⟨_, _, _, _, _, _, _, _, _, _, _, _, _⟩ := SS.out W (nextB B9.out hW); go_simp)
      try simp only [Act.put, List.setIfInBounds_toArray, List.set_cons_zero, List.set_cons_succ]
      refine take2 rfl (i := 19) (v := (.agg #[.bool p.leaf, .slice ak mk ck, .slice dk nk fk, .slice gk ok hk])) (d := 48) rfl rfl (by kernel_rfl) (by kernel_rfl) (by kernel_rfl) (fun _ _ _ h => h) (Or.inl ⟨by rfl, ?_⟩) hHeld ?_
      · (intro W hW; obtain ⟨_, _, _, _, _, _, _, _, _, _, _, _, _⟩ := SS.out W (nextB B9.out hW); go_simp)
      try simp only [Act.put, List.setIfInBounds_toArray, List.set_cons_zero, List.set_cons_succ]
      refine wpAnyH_ready (rs := [20]) (by kernel_rfl) (by simp) ?_
      refine cons2 rfl rfl (fun K hK => ?_)
      go_simp
      (go_at_call 19; refine Calls.mono (KS.out _ Ba.out) ?_; rintro e wb ⟨rfl, bb⟩; have Bb : Hid (Below w8.heap.size w8 wb) := nextB Ba.out bb)
      go_wp2_with fail
      refine hK.out _ _ (nextB ba bb) (fun hX => ?_)
      clear hK K hHeld
      have hHeld := hX
      clear hX
      try simp only [Act.put, List.setIfInBounds_toArray, List.set_cons_zero, List.set_cons_succ]
      refine take2 rfl (i := 21) (v := .bool true) (d := 50) rfl rfl (by kernel_rfl) (by kernel_rfl) (by kernel_rfl) (fun _ _ _ h => h) (Or.inl ⟨by rfl, ?_⟩) hHeld ?_
      · (intro W hW; (try dsimp only at hW); go_simp)
      try simp only [Act.put, List.setIfInBounds_toArray, List.set_cons_zero, List.set_cons_succ]
      refine take2 rfl (i := 22) (v := .bool true) (d := 2) rfl rfl (by kernel_rfl) (by kernel_rfl) (by kernel_rfl) (fun _ _ _ h => h) (Or.inl ⟨by rfl, ?_⟩) hHeld ?_
      · (intro W hW; (try dsimp only at hW); go_simp)
      try simp only [Act.put, List.setIfInBounds_toArray, List.set_cons_zero, List.set_cons_succ]
      refine wpAnyH_done (by kernel_rfl) ?_ _
      go_wp2
      exact bodyPost_ret (v := .bool true) (by simp [results, Try.results4, go_sem]) rfl ⟨rfl, nextB B8.out Bb.out⟩


set_option maxRecDepth 100000 in
theorem lifted (os : Os) (started : os.Started) (H : Type) (enc : TypeId × Value → H) :
    ReturnsInHanded {} Try.checked os 4 .any (Rows.pageBytesSpec.pre6 enc Try.prog Try.f4 Rows.pageBytesRow.domain false) (Rows.pageBytesSpec.post enc Try.prog Try.f4 false true false false) := by
  refine returnsInHanded_of_change_sized (C := Try.checked) own started (by kernel_rfl) Try.func4
    (ChangeSpec.witness6 (enc := enc) (C := Try.checked) false ⟨#[], #[.agg #[.bool false, .slice none 0 0, .slice none 0 0, .slice none 0 0]], []⟩ 8 (by kernel_rfl) (by kernel_rfl) (by kernel_rfl) (by kernel_rfl)) ?_
  intro W base args ds gs before hval0 hW hcnd hwt _
  have hval : ∀ (j : Nat) t v, Try.f4.params[j]? = some t → args[j]? = some v → Value.okWide Try.prog W .any base t v := hval0
  have hwz : ∀ (j : Nat) t d, (Try.f4.params.toList ++ Rows.pageBytesSpec.plain.varTypes Try.prog)[j]? = some t → (ds ++ gs)[j]? = some d → ∀ n ∈ d.weights Try.prog t, n ≤ reachBytes := fun j t d ht hd n hn => by
    simpa using List.all_eq_true.1 hwt n (DataW.weights_mem_each ht hd n hn)
  have hW' := hW
  obtain ⟨p, q, hA0, hV, rfl, hfz, hnd⟩ := hW
  have hA : DataW.TrodAll enc Try.prog W 0 (fun _ => true) true Try.f4.params.toList args.toList ds p := hA0
  rw [Try.params4] at hA hval hwz
  obtain ⟨v0, vs0, d0, ds0, p0, q0, hargs, rfl, rfl, h0, r0⟩ := trodAll_cons hA
  obtain ⟨rfl, rfl, rfl⟩ := trodAll_nil r0
  obtain rfl : args = #[v0] := by cases args; simp_all
  obtain ⟨rfl, rfl⟩ := trodVars_none hV
  have k0 := h0
  have lt0 : ∀ x ∈ p0, x.block < W.heap.size := by obtain ⟨m, hm⟩ := k0; exact DataW.trod_lt m _ _ _ hm
  obtain ⟨g0, w0, x0, y0⟩ := pg_of (hval 0 26 v0 rfl rfl) h0 (hwz 0 26 d0 rfl rfl)
  clear hA0 hval0
  try simp only [List.append_nil, List.nil_append] at hW'
  refine (walk W v0 g0 w0 x0 y0).mono fun e W' ⟨he, bel⟩ => ?_
  subst he
  exact ⟨_, rfl, _, _, _, [], _, [], hW', trodAll_mk1 (shut_bool Try.underlying4 _), (trodAll_cons_mk (Below.trod laidOut (by kernel_rfl) (of_decide_eq_true (by kernel_rfl)) k0 bel lt0) trodAll_mk0), rfl, bel.frame _, fun h => by cases h⟩

theorem over : Rows.pageBytesRow.holds Try.pinned (OpenSpec.ofChange Rows.pageBytesSpec) :=
  OpenClaim.holds_of_wide 4 Try.f4 rfl rfl rfl rfl rfl rfl rfl ⟨rfl, rfl, rfl, rfl, rfl⟩ rfl rfl rfl rfl rfl (by kernel_rfl) Try.func4 (by kernel_rfl)
    (of_decide_eq_true (by kernel_rfl)) (by unfold Func.isWrapper; first | (rw [if_pos (by decide +kernel)]; kernel_rfl) | (rw [if_neg (by decide +kernel)]; exact ⟨rfl, rfl⟩))
    (fun os started H enc _ => lifted os started H enc)

end Go.Proofs.Ytfedcghkohfhlaa.pageBytes
namespace Go.Proofs.Ytfedcghkohfhlaa

theorem PageBytes_holds : Rows.PageBytesSaid := pageBytes.over

end Go.Proofs.Ytfedcghkohfhlaa
