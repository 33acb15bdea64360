/- The walks over code's writers, on: a table, the sum, a whole program. -/
import Derived.Test.YtcmifdnndckpcaaDoorCd
import Derived.Test.YtcmifdnndckpcaaDoorW4
namespace Go.Proofs.YtcmifdnndckpcaaDoor
open Go.RowKit
set_option linter.unusedVariables false
set_option linter.unusedSimpArgs false

set_option maxRecDepth 100000 in
set_option maxHeartbeats 8000000 in
theorem code_table_any {W0 w : World} {v : Value} {bs : List Int} (x y : Int) {ka va : Option Addr} {kn vn kc vc : Nat} {ks vs : List Int} (hO : Own w W0.heap.size v bs) (hB : Below W0.heap.size W0 w) (hx : cI.ok x) (hy : cI.ok y) (hk : Vw aI 1 W0 ka kn ks) (hv : Vw aI 1 W0 va vn vs) (hl : bs.length + ((cT false).en (x, y, ks, vs)).length ≤ 9000000) :
    Calls Tryd.prog 27 #[v, .agg #[.int .i64 x, .int .i64 y, .slice ka kn kc, .slice va vn vc]] w fun e w' => Wr W0 w w' e (bs ++ (cT false).en (x, y, ks, vs)) := by
  have EN : (cT false).en (x, y, ks, vs) = cI.en x ++ (cI.en y ++ ((cL false cI).en ks ++ (cL false cI).en vs)) := rfl
  rw [EN] at hl ⊢
  simp only [List.length_append] at hl
  have O2 := hid (hO.below (allocB w (.cells #[.int .i64 x, .int .i64 y, .slice ka kn kc, .slice va vn vc] 59)))
  have B2 := hid (hB.alloc hB.size (.cells #[.int .i64 x, .int .i64 y, .slice ka kn kc, .slice va vn vc] 59))
  have X2 := hid (Bx.new w #[.int .i64 x, .int .i64 y, .slice ka kn kc, .slice va vn vc] 59 (by decide))
  have K2 := hid ((Lib.OthersKept.refl 5 none w).below (allocB w (.cells #[.int .i64 x, .int .i64 y, .slice ka kn kc, .slice va vn vc] 59)))
  have L := hid hl
  have HX := hid hx
  have HY := hid hy
  have HK := hid hk
  have HV := hid hv
  clear hO hB hl hx hy hk hv EN
  go_enter Tryd.func27, Tryd.ntmps27
  go_upto_region 1 with fail
  generalize World.alloc w _ = w2 at *
  generalize w.heap.size = p at *
  refine wp_region_held_drew (S := fun W => Bx W p 59 #[.int .i64 x, .int .i64 y, .slice ka kn kc, .slice va vn vc]) (by kernel_rfl) (X2.out.next (Below.refl _ _).drew) (fun hHeld => ?_)
  have O3 := hid (show Own w2.drew W0.heap.size _ _ from O2.out.below (Below.refl _ _).drew)
  have B3 := hid (show Below W0.heap.size W0 w2.drew from B2.out.drew)
  have K3 := hid (show Lib.OthersKept 5 none w w2.drew from K2.out.drew)
  clear O2 B2 K2
  have X3 := hid (X2.out.next (Below.refl _ _).drew)
  clear X2
  generalize w2.drew = wz at *
  refine tk 0 (v) 5 rfl rfl rfl (by kernel_rfl) (fun _ _ _ h => h) (by rfl) hHeld ?_ ?_
  · (intro W hW; (try dsimp only at hW); go_simp)
  try simp only [Act.put, List.setIfInBounds_toArray, List.set_cons_zero, List.set_cons_succ]
  refine tk 1 (.pointer (some ⟨p, 0, none⟩)) 6 rfl rfl rfl (by kernel_rfl) (fun _ _ _ h => h) (by rfl) hHeld ?_ ?_
  · (intro W hW; (try dsimp only at hW); go_simp)
  try simp only [Act.put, List.setIfInBounds_toArray, List.set_cons_zero, List.set_cons_succ]
  refine tk 2 (.int .i64 x) 7 rfl rfl rfl (by kernel_rfl) (fun _ _ _ h => h) (by rfl) hHeld ?_ ?_
  · (intro W hW; (try dsimp only at hW); have c0 := hW.cell 0 _ rfl; go_simp)
  try simp only [Act.put, List.setIfInBounds_toArray, List.set_cons_zero, List.set_cons_succ]
  refine tk 4 (.pointer (some ⟨p, 1, none⟩)) 9 rfl rfl rfl (by kernel_rfl) (fun _ _ _ h => h) (by rfl) hHeld ?_ ?_
  · (intro W hW; (try dsimp only at hW); go_simp)
  try simp only [Act.put, List.setIfInBounds_toArray, List.set_cons_zero, List.set_cons_succ]
  refine tk 5 (.int .i64 y) 10 rfl rfl rfl (by kernel_rfl) (fun _ _ _ h => h) (by rfl) hHeld ?_ ?_
  · (intro W hW; (try dsimp only at hW); have c0 := hW.cell 1 _ rfl; go_simp)
  try simp only [Act.put, List.setIfInBounds_toArray, List.set_cons_zero, List.set_cons_succ]
  refine wpAnyH_ready (rs := [3]) (by kernel_rfl) (by simp) ?_
  refine cons2 rfl rfl (fun K9 hK => ?_)
  go_simp
  refine Calls.mono (cnKind_any x O3.out B3.out (by have := L.out; omega) HX.out) ?_
  rintro e w4 ⟨⟨v4, rfl, o4⟩, b4, k4⟩
  have O4 := hid o4
  have B4 := hid b4
  have K4 := hid k4
  clear o4 b4 k4
  go_wp2_with fail
  refine hK.out _ _ (hHeld.keep K4.out) (fun hX => ?_)
  clear hK K9 hHeld
  have hHeld := hX
  clear hX
  try simp only [Act.put, List.setIfInBounds_toArray, List.set_cons_zero, List.set_cons_succ]
  refine wpAnyH_ready (rs := [6]) (by kernel_rfl) (by simp) ?_
  refine cons2 rfl rfl (fun K9 hK => ?_)
  go_simp
  refine Calls.mono (cnKind_any y O4.out B4.out (by have := L.out; simp only [List.length_append]; omega) HY.out) ?_
  rintro e w5 ⟨⟨v5, rfl, o5⟩, b5, k5⟩
  have O5 := hid o5
  have B5 := hid b5
  have K5 := hid k5
  clear o5 b5 k5
  go_wp2_with fail
  refine hK.out _ _ (hHeld.keep K5.out) (fun hX => ?_)
  clear hK K9 hHeld
  have hHeld := hX
  clear hX
  try simp only [Act.put, List.setIfInBounds_toArray, List.set_cons_zero, List.set_cons_succ]
  refine tk 7 (v5) 0 rfl rfl rfl (by kernel_rfl) (fun _ _ _ h => h) (by rfl) hHeld ?_ ?_
  · (intro W hW; (try dsimp only at hW); go_simp)
  try simp only [Act.put, List.setIfInBounds_toArray, List.set_cons_zero, List.set_cons_succ]
  refine wpAnyH_done (by kernel_rfl) ?_ _
  have X5 := hid ((X3.out.keep K4.out).keep K5.out)
  have KK := hid ((K3.out.trans K4.out).trans K5.out)
  clear X3 K3 K4 K5 O3 B3 O4 B4 hHeld
  go_upto_region 2 with fail
  refine wp_region_held_drew (S := fun W => Bx W p 59 #[.int .i64 x, .int .i64 y, .slice ka kn kc, .slice va vn vc]) (by kernel_rfl) (X5.out.next (Below.refl _ _).drew) (fun hHeld => ?_)
  have O6 := hid (show Own w5.drew W0.heap.size _ _ from O5.out.below (Below.refl _ _).drew)
  have B6 := hid (show Below W0.heap.size W0 w5.drew from B5.out.drew)
  have K6 := hid (show Lib.OthersKept 5 none w w5.drew from KK.out.drew)
  clear O5 B5 KK
  clear X5
  generalize w5.drew = wy at *
  refine tk 0 (v5) 12 rfl rfl rfl (by kernel_rfl) (fun _ _ _ h => h) (by rfl) hHeld ?_ ?_
  · (intro W hW; (try dsimp only at hW); go_simp)
  try simp only [Act.put, List.setIfInBounds_toArray, List.set_cons_zero, List.set_cons_succ]
  refine tk 1 (.pointer (some ⟨p, 2, none⟩)) 13 rfl rfl rfl (by kernel_rfl) (fun _ _ _ h => h) (by rfl) hHeld ?_ ?_
  · (intro W hW; (try dsimp only at hW); go_simp)
  try simp only [Act.put, List.setIfInBounds_toArray, List.set_cons_zero, List.set_cons_succ]
  refine tk 2 (.slice ka kn kc) 14 rfl rfl rfl (by kernel_rfl) (fun _ _ _ h => h) (by rfl) hHeld ?_ ?_
  · (intro W hW; (try dsimp only at hW); have c0 := hW.cell 2 _ rfl; go_simp)
  try simp only [Act.put, List.setIfInBounds_toArray, List.set_cons_zero, List.set_cons_succ]
  refine tk 4 (.pointer (some ⟨p, 3, none⟩)) 16 rfl rfl rfl (by kernel_rfl) (fun _ _ _ h => h) (by rfl) hHeld ?_ ?_
  · (intro W hW; (try dsimp only at hW); go_simp)
  try simp only [Act.put, List.setIfInBounds_toArray, List.set_cons_zero, List.set_cons_succ]
  refine tk 5 (.slice va vn vc) 17 rfl rfl rfl (by kernel_rfl) (fun _ _ _ h => h) (by rfl) hHeld ?_ ?_
  · (intro W hW; (try dsimp only at hW); have c0 := hW.cell 3 _ rfl; go_simp)
  try simp only [Act.put, List.setIfInBounds_toArray, List.set_cons_zero, List.set_cons_succ]
  refine wpAnyH_ready (rs := [3]) (by kernel_rfl) (by simp) ?_
  refine cons2 rfl rfl (fun K9 hK => ?_)
  go_simp
  refine Calls.mono (clI64_any HK.out (Or.inl O6.out) B6.out (by have := L.out; simp only [List.length_append]; omega)) ?_
  rintro e w7 ⟨⟨v7, rfl, o7⟩, b7, k7⟩
  have O7 := hid o7
  have B7 := hid b7
  have K7 := hid k7
  clear o7 b7 k7
  go_wp2_with fail
  refine hK.out _ _ (hHeld.keep K7.out) (fun hX => ?_)
  clear hK K9 hHeld
  have hHeld := hX
  clear hX
  try simp only [Act.put, List.setIfInBounds_toArray, List.set_cons_zero, List.set_cons_succ]
  refine wpAnyH_ready (rs := [6]) (by kernel_rfl) (by simp) ?_
  refine cons2 rfl rfl (fun K9 hK => ?_)
  go_simp
  refine Calls.mono (clI64_any HV.out (Or.inl O7.out) B7.out (by have := L.out; simp only [List.length_append]; omega)) ?_
  rintro e w8 ⟨⟨v8, rfl, o8⟩, b8, k8⟩
  have O8 := hid o8
  have B8 := hid b8
  have K8 := hid k8
  clear o8 b8 k8
  go_wp2_with fail
  refine hK.out _ _ (hHeld.keep K8.out) (fun hX => ?_)
  clear hK K9 hHeld
  have hHeld := hX
  clear hX
  try simp only [Act.put, List.setIfInBounds_toArray, List.set_cons_zero, List.set_cons_succ]
  refine tk 7 (v8) 4 rfl rfl rfl (by kernel_rfl) (fun _ _ _ h => h) (by rfl) hHeld ?_ ?_
  · (intro W hW; (try dsimp only at hW); go_simp)
  try simp only [Act.put, List.setIfInBounds_toArray, List.set_cons_zero, List.set_cons_succ]
  refine wpAnyH_done (by kernel_rfl) ?_ _
  go_wp2_with fail
  go_ret
  refine ⟨⟨v8, rfl, ?_⟩, B8.out, (K6.out.trans K7.out).trans K8.out⟩
  have := O8.out
  simp only [List.append_assoc] at this
  exact this
set_option maxRecDepth 100000 in
set_option maxHeartbeats 8000000 in
theorem clTab_any {W0 w : World} {v : Value} {bs : List Int} {a : Option Addr} {m cap : Nat} {xs : List (Int × Int × List Int × List Int)} (hV : Vw aT 4 W0 a m xs) (hO : Hd w W0.heap.size v bs) (hB : Below W0.heap.size W0 w) (hl : bs.length + ((cL false (cT false)).en xs).length ≤ 9000000) :
    Calls Tryd.prog 26 #[v, .slice a m cap, .func (.func 27) #[] #[]] w fun e w' => Wr W0 w w' e (bs ++ (cL false (cT false)).en xs) := by
  have EN : (cL false (cT false)).en xs = enc m ++ (xs.map (cT false).en).flatten := by show enc xs.length ++ _ = _; rw [hV.len]
  rw [EN] at hl ⊢
  rw [List.length_append] at hl
  have FL := flat_len (cT_good false) xs
  rw [hV.len] at FL
  have mb : m ≤ 9000000 := by omega
  have O := hid hO
  have B := hid hB
  have V := hid hV
  have L := hid hl
  have K := hid (pU_any none 0 0 m [] w (By.empty w) (by decide) (by omega))
  clear hV hO hB hl FL EN
  go_enter Tryd.func26, Tryd.ntmps26
  go_wp2_with fail
  refine K.out.mono ?_
  rintro e w1 ⟨⟨v1, rfl, o1⟩, b1⟩
  rw [List.nil_append] at o1
  obtain ⟨a1, c1, rfl, y1, s1, -⟩ := o1.by
  have O1 := hid (O.out.below b1)
  have Y1 := hid y1
  have B1 := hid (B.out.trans (b1.mono B.out.size))
  have K1 := hid ((Lib.OthersKept.refl 5 none w).below b1)
  clear o1 y1 s1 b1 K O B
  go_upto_region 2 with (at_builtin; refine wpList_append_hd rfl (.tmp 9) (.tmp 13) rfl v bs rfl O1.out a1 _ c1 _ rfl Y1.out (enc_pos m) (by have := L.out; omega) B1.out ?_; intro v2 w2 o2 g2 q2)
  have I2 := hid (show LI W0 w w2 v2 (bs ++ enc m) from ⟨o2, g2, K1.out.trans q2⟩)
  clear o2 g2 q2 O1 Y1 B1 K1
  go_wp2_with fail
  go_loopg [0, 8, 17] m (fun g bv iv kv wr => ∃ i : Nat, i ≤ m ∧ g = m - i ∧ kv = .int .i64 (i : Nat) ∧ Hid (LI W0 w wr bv (bs ++ enc m ++ ((xs.take i).map (cT false).en).flatten)))
  case atStart => exact ⟨0, Nat.zero_le _, rfl, rfl, hid (LI.cast I2.out (by simp))⟩
  case round =>
    obtain ⟨i, hi, rfl, rfl, hI⟩ := hrel
    by_cases q : i < m
    · have q' : (i : Int) < (m : Int) := by omega
      obtain ⟨g, o, x, rfl, hx, hA0, ht⟩ := V.out.get q
      have hA := hA0
      have HT := hid (next_en (cT false).en (bs ++ enc m) ht)
      have LB := hid (show (bs ++ enc m ++ ((xs.take i).map (cT false).en).flatten).length + ((cT false).en x).length ≤ 9000000 from by
        have h1 := flat_take (cT false).en xs (i + 1)
        rw [ht, List.map_append, List.flatten_append] at h1
        simp only [List.length_append, List.map_cons, List.map_nil, List.flatten_cons, List.flatten_nil, List.append_nil] at h1
        have := L.out
        simp only [List.length_append]
        omega)
      clear hA0 ht hx
      obtain ⟨c0, c1, ok0, ok1, ⟨ka, kc, c2, vk⟩, ⟨va, vc, c3, vv⟩⟩ := hA
      have KV := hid (And.intro vk vv)
      replace c0 := celB hI.out.bl c0
      replace c1 := celB hI.out.bl c1
      replace c2 := celB hI.out.bl c2
      replace c3 := celB hI.out.bl c3
      clear vk vv
      have O3 := hid (hI.out.own.below (allocB wr (.cells #[.int .i64 x.1, .int .i64 x.2.1, .slice ka x.2.2.1.length kc, .slice va x.2.2.2.length vc] 59)))
      have B3 := hid (hI.out.bl.alloc hI.out.bl.size (.cells #[.int .i64 x.1, .int .i64 x.2.1, .slice ka x.2.2.1.length kc, .slice va x.2.2.2.length vc] 59))
      have X3 := hid (Bx.new wr #[.int .i64 x.1, .int .i64 x.2.1, .slice ka x.2.2.1.length kc, .slice va x.2.2.2.length vc] 59 (by decide))
      have K3 := hid (hI.out.ok.alloc (.cells #[.int .i64 x.1, .int .i64 x.2.1, .slice ka x.2.2.1.length kc, .slice va x.2.2.2.length vc] 59))
      clear hI
      go_upto_region 5 with fail
      clear c0 c1 c2 c3
      generalize World.alloc wr _ = w3 at *
      generalize wr.heap.size = xb at *
      have d0 := X3.out.cell 0 _ rfl
      have d1 := X3.out.cell 1 _ rfl
      have d2 := X3.out.cell 2 _ rfl
      have d3 := X3.out.cell 3 _ rfl
      have KC := hid (code_table_any (kc := kc) (vc := vc) (ks := x.2.2.1) (vs := x.2.2.2) x.1 x.2.1 O3.out B3.out ok0 ok1 KV.out.1 KV.out.2 (by have := LB.out; omega))
      go_wp2_with (go_at_call 27; with_reducible refine Calls.mono KC.out ?_; rintro e w4 ⟨⟨v4, rfl, o4⟩, b4, k4⟩; have O4 := hid o4; have B4 := hid b4; have K4 := hid k4; clear o4 b4 k4)
      go_roundg (m - (i + 1))
      case measure => omega
      case rel => exact ⟨i + 1, by omega, rfl, by rw [Int.natCast_add]; rfl, LI.cast ⟨O4.out, B4.out, K3.out.trans K4.out⟩ HT.out⟩
    · have q' : ¬ (i : Int) < (m : Int) := by omega
      have e0 : i = m := by omega
      have T0 : xs.take i = xs := List.take_of_length_le (by rw [V.out.len]; omega)
      have E0 := hid (show bs ++ enc m ++ ((xs.take i).map (cT false).en).flatten = bs ++ (enc m ++ (xs.map (cT false).en).flatten) from by rw [T0, List.append_assoc])
      clear e0 T0
      go_wp2_with fail
      go_ret
      exact ⟨⟨_, rfl, by rw [← E0.out]; exact hI.out.own⟩, hI.out.bl, hI.out.ok⟩

end Go.Proofs.YtcmifdnndckpcaaDoor
