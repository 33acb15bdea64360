/- The walk over publicanref14's Encode. -/
import Derived.Test.YtcmifdnndckpcaaDoorCg
namespace Go.Proofs.YtcmifdnndckpcaaDoor
open Go.RowKit
set_option linter.unusedVariables false
set_option linter.unusedSimpArgs false

theorem mem_len {α : Type} {c : Cod α} {xs : List α} {i : Nat} {x : α} (h : xs.take (i + 1) = xs.take i ++ [x]) : ((xs.take i).map c.en).flatten.length + (c.en x).length ≤ (xs.map c.en).flatten.length := by
  have h1 := flat_take c.en xs (i + 1)
  rw [h, List.map_append, List.flatten_append] at h1
  simp only [List.length_append, List.map_cons, List.map_nil, List.flatten_cons, List.flatten_nil, List.append_nil] at h1
  exact h1
theorem by4 (w : World) (y0 y1 y2 y3 : Int) (t : TypeId) (h : Bys [y0, y1, y2, y3]) : By (w.alloc (.cells #[.int .u8 y0, .int .u8 y1, .int .u8 y2, .int .u8 y3] t)) (some ⟨w.heap.size, 0, none⟩) 4 4 [y0, y1, y2, y3] := by
  refine ⟨rfl, Nat.le_refl _, by decide, fun e => by simp at e, ⟨w.heap.size, 0, fun _ => rfl, fun i hi => ?_⟩, h⟩
  rw [Nat.zero_add]
  match i, hi with
  | 0, _ => simp
  | 1, _ => simp
  | 2, _ => simp
  | 3, _ => simp
set_option maxRecDepth 100000 in
set_option maxHeartbeats 16000000 in
theorem ref14_Encode_any (w : World) (v : Value) (p : PP) (hp : Pw w v p) (hl : (bodyOf p).length ≤ 8000000) :
    Calls Tryd.prog 13 #[v] w fun e w' => New w w' e (bytesOf p) := by
  obtain ⟨p0, p1, p2, p3, p4, p5, p6⟩ := p
  obtain ⟨a0, m0, c0, a1, m1, c1, a2, m2, c2, a3, m3, c3, a4, m4, c4, a5, m5, c5, a6, m6, c6, rfl, h0, h1, h2, h3, h4, h5, h6⟩ := hp.ex
  have l0 : p0.length = m0 := h0.len
  have l1 : p1.length = m1 := h1.len
  have l5 : p5.length = m5 := h5.len
  have l6 : p6.length = m6 := h6.len
  have EB : bodyOf (p0, p1, p2, p3, p4, p5, p6) = (enc p0.length ++ (p0.map cC.en).flatten) ++ ((enc p1.length ++ (p1.map (cT false).en).flatten) ++ ((cL false cI).en p2 ++ ((cL false cI).en p3 ++ ((cL false cI).en p4 ++ ((enc p5.length ++ (p5.map cS.en).flatten) ++ (enc p6.length ++ (p6.map cN.en).flatten)))))) := rfl
  rw [l0, l1, l5, l6] at EB
  have B1 := hid (allocB w (.cells #[.slice a0 m0 c0, .slice a1 m1 c1, .slice a2 m2 c2, .slice a3 m3 c3, .slice a4 m4 c4, .slice a5 m5 c5, .slice a6 m6 c6] 29))
  have X1 := hid (Bx.new w #[.slice a0 m0 c0, .slice a1 m1 c1, .slice a2 m2 c2, .slice a3 m3 c3, .slice a4 m4 c4, .slice a5 m5 c5, .slice a6 m6 c6] 29 (by decide))
  have V := hid (show Vw aC 3 _ a0 m0 p0 ∧ Vw aT 4 _ a1 m1 p1 ∧ Vw aI 1 _ a2 m2 p2 ∧ Vw aI 1 _ a3 m3 p3 ∧ Vw aI 1 _ a4 m4 p4 ∧ Vw aS 1 _ a5 m5 p5 ∧ Vw aN 4 _ a6 m6 p6 from ⟨h0.next aC_nx B1.out, h1.next aT_nx B1.out, h2.next aI_nx B1.out, h3.next aI_nx B1.out, h4.next aI_nx B1.out, h5.next aS_nx B1.out, h6.next aN_nx B1.out⟩)
  have EQ := hid (show bytesOf (p0, p1, p2, p3, p4, p5, p6) = fisc ++ bodyOf (p0, p1, p2, p3, p4, p5, p6) ++ le4 (sum (fisc ++ bodyOf (p0, p1, p2, p3, p4, p5, p6))) from rfl)
  rw [EQ.out]
  clear EQ
  rw [EB] at hl ⊢
  simp only [List.length_append] at hl
  have FL0 := flat_len cC_good p0
  have FL1 := flat_len (cT_good false) p1
  have FL5 := flat_len cS_good p5
  have FL6 := flat_len cN_good p6
  have mb0 : m0 ≤ 8000000 := by omega
  have mb1 : m1 ≤ 8000000 := by omega
  have mb5 : m5 ≤ 8000000 := by omega
  have mb6 : m6 ≤ 8000000 := by omega
  have L := hid hl
  have LL := hid (And.intro l0 (And.intro l1 (And.intro l5 l6)))
  clear hp hl h0 h1 h2 h3 h4 h5 h6 EB l0 l1 l5 l6 FL0 FL1 FL5 FL6
  go_enter Tryd.func13, Tryd.ntmps13
  go_upto_region 1 with fail
  obtain ⟨bx, hbx⟩ : ∃ bx, bx = w.heap.size := ⟨_, rfl⟩
  rw [← hbx] at X1 ⊢
  clear hbx
  generalize World.alloc w _ = w1 at *
  have kc := fun (w : World) (C : Array Value) (n c : Nat) => Lib.run_convert_bytes_const (P := Tryd.prog) w 38 5 C n c Tryd.underlying38 Tryd.underlying5
  have A2 := hid (allocB w1 (.cells #[.int .u8 70, .int .u8 73, .int .u8 83, .int .u8 67] 5 (4, 5)))
  have Y2 := hid (by_fisc w1)
  go_upto_region 2 with fail
  clear kc
  generalize World.alloc w1 _ = w2 at *
  generalize (some (⟨w1.heap.size, 0, none⟩ : Addr)) = a2' at *
  have d0 := (X1.out.next A2.out).cell 0 _ rfl
  have KC := hid (ref14_many_any a2' 4 4 m0 [70, 73, 83, 67] w2 Y2.out (by decide) (by omega))
  go_upto_region 3 with (go_at_call 35; (with_reducible refine Calls.mono KC.out ?_); rintro e w3 ⟨⟨v3, rfl, o3⟩, b3⟩; have I3 := hid (show Ri w1 w3 v3 _ from ⟨o3.mono A2.out.size, A2.out.trans (b3.mono A2.out.size)⟩); clear o3 b3 KC)
  clear d0 A2 Y2
  go_wp2_with fail
  go_loopg [3, 4] m0 (fun g bv kv wr => ∃ i : Nat, i ≤ m0 ∧ g = m0 - i ∧ kv = .int .i64 (i : Nat) ∧ Hid (Ri w1 wr bv ([70, 73, 83, 67] ++ enc m0 ++ ((p0.take i).map cC.en).flatten)))
  case atStart => exact ⟨0, Nat.zero_le _, rfl, rfl, hid (Ri.cast I3.out (by simp))⟩
  case round =>
    obtain ⟨i, hi, rfl, rfl, hI⟩ := hrel
    by_cases q : i < m0
    · have q' : (i : Int) < (m0 : Int) := by omega
      obtain ⟨g, o, x, rfl, hx, hA0, ht⟩ := V.out.1.get q
      have hA := aC_nx _ _ _ _ _ hA0 hI.out.bl
      have HT := hid (next_en cC.en ([70, 73, 83, 67] ++ enc m0) ht)
      have LB := hid (mem_len (c := cC) ht)
      have d0 := (X1.out.next hI.out.bl).cell 0 _ rfl
      clear hA0 ht hx
      obtain ⟨c0, c1, ⟨a2q, m2q, c2q, c2⟩, ok0⟩ := hA
      have OK0 := hid ok0
      clear ok0 c2
      have LC := hid (show (cC.en x).length = (enc (zig x.1)).length + (enc (zig x.2)).length from by rw [show cC.en x = enc (zig x.1) ++ enc (zig x.2) from rfl, List.length_append])
      obtain ⟨wi, hwi⟩ : ∃ x, x = wr := ⟨_, rfl⟩
      subst hwi
      obtain ⟨at0, nt0, ct0, et0, yt0⟩ := hI.out.own.flat
      subst et0
      have KC := hid (rPutI_any at0 nt0 ct0 x.1 _ wi yt0 (by have := L.out; have := LB.out; have := LC.out; have := yt0.len; simp only [List.length_append, List.length_cons, List.length_nil] at *; omega) OK0.out.1.1 OK0.out.1.2)
      clear yt0
      go_upto_region 7 with (go_at_call 36; (with_reducible refine Calls.mono KC.out ?_); rintro e z0 ⟨⟨u0, rfl, o0⟩, b0⟩; have J0 := hid (hI.out.on o0 b0); replace d0 := celB b0 d0; replace c0 := celB b0 c0; replace c1 := celB b0 c1; skip; clear o0 b0 KC)
      obtain ⟨at1, nt1, ct1, et1, yt1⟩ := J0.out.own.flat
      subst et1
      have KC := hid (rPutI_any at1 nt1 ct1 x.2 _ z0 yt1 (by have := L.out; have := LB.out; have := LC.out; have := yt1.len; simp only [List.length_append, List.length_cons, List.length_nil] at *; omega) OK0.out.2.1 OK0.out.2.2)
      clear yt1
      go_wp2_with (go_at_call 36; (with_reducible refine Calls.mono KC.out ?_); rintro e z1 ⟨⟨u1, rfl, o1⟩, b1⟩; have J1 := hid (J0.out.on o1 b1); skip; skip; clear o1 b1 KC)
      go_roundg (m0 - (i + 1))
      case measure => omega
      case rel => exact ⟨i + 1, by omega, rfl, by rw [Int.natCast_add]; rfl, hid (Ri.cast J1.out (by
        rw [← HT.out]
        rw [show cC.en x = cI.en x.1 ++ cI.en x.2 from rfl]; simp only [List.append_assoc]; rfl))⟩
    · have q' : ¬ (i : Int) < (m0 : Int) := by omega
      have T0 : p0.take i = p0 := List.take_of_length_le (by rw [LL.out.1]; omega)
      have dz := (X1.out.next hI.out.bl).cell 0 _ rfl
      rw [T0] at hI
      clear T0
      obtain ⟨we4, hwe⟩ : ∃ x, x = wr := ⟨_, rfl⟩
      subst hwe
      have HE4 := hid hI.out
      clear hI
      have dy := (X1.out.next HE4.out.bl).cell 1 _ rfl
      obtain ⟨an1, nn1, cn1, en1, yn1⟩ := HE4.out.own.flat
      subst en1
      have KC := hid (ref14_many_any an1 nn1 cn1 m1 _ we4 yn1 (by have := L.out; have := yn1.len; simp only [List.length_append, List.length_cons, List.length_nil] at *; omega) (by omega))
      clear yn1
      go_upto_region 9 with (go_at_call 35; (with_reducible refine Calls.mono KC.out ?_); rintro e xn1 ⟨⟨vn1, rfl, on1⟩, bn1⟩; have In1 := hid (HE4.out.on on1 bn1); clear on1 bn1 KC)
      clear dy dz
      go_wp2_with fail
      go_loopg [3, 5] m1 (fun g bv kv wr => ∃ i : Nat, i ≤ m1 ∧ g = m1 - i ∧ kv = .int .i64 (i : Nat) ∧ Hid (Ri w1 wr bv ([70, 73, 83, 67] ++ enc m0 ++ (p0.map cC.en).flatten ++ enc m1 ++ ((p1.take i).map (cT false).en).flatten)))
      case atStart => exact ⟨0, Nat.zero_le _, rfl, rfl, hid (Ri.cast In1.out (by simp))⟩
      case round =>
        obtain ⟨i, hi, rfl, rfl, hI⟩ := hrel
        by_cases q : i < m1
        · have q' : (i : Int) < (m1 : Int) := by omega
          obtain ⟨g, o, x, rfl, hx, hA0, ht⟩ := V.out.2.1.get q
          have hA := aT_nx _ _ _ _ _ hA0 hI.out.bl
          have HT := hid (next_en (cT false).en ([70, 73, 83, 67] ++ enc m0 ++ (p0.map cC.en).flatten ++ enc m1) ht)
          have LB := hid (mem_len (c := (cT false)) ht)
          have d0 := (X1.out.next hI.out.bl).cell 1 _ rfl
          clear hA0 ht hx
          obtain ⟨c0, c1, ok0, ok1, ⟨ka, kc, c2, vk⟩, ⟨va, vc, c3, vv⟩⟩ := hA
          have OK0 := hid (And.intro ok0 ok1)
          have VK := hid vk
          have VV := hid vv
          clear ok0 ok1 vk vv
          have LC := hid (show ((cT false).en x).length = (enc (zig x.1)).length + ((enc (zig x.2.1)).length + (((cL false cI).en x.2.2.1).length + ((cL false cI).en x.2.2.2).length)) from by rw [show (cT false).en x = enc (zig x.1) ++ (enc (zig x.2.1) ++ ((cL false cI).en x.2.2.1 ++ (cL false cI).en x.2.2.2)) from rfl]; simp only [List.length_append])
          obtain ⟨wi, hwi⟩ : ∃ x, x = wr := ⟨_, rfl⟩
          subst hwi
          obtain ⟨at0, nt0, ct0, et0, yt0⟩ := hI.out.own.flat
          subst et0
          have KC := hid (rPutI_any at0 nt0 ct0 x.1 _ wi yt0 (by have := L.out; have := LB.out; have := LC.out; have := yt0.len; simp only [List.length_append, List.length_cons, List.length_nil] at *; omega) OK0.out.1.1 OK0.out.1.2)
          clear yt0
          go_upto_region 13 with (go_at_call 36; (with_reducible refine Calls.mono KC.out ?_); rintro e z0 ⟨⟨u0, rfl, o0⟩, b0⟩; have J0 := hid (hI.out.on o0 b0); replace d0 := celB b0 d0; replace c0 := celB b0 c0; replace c1 := celB b0 c1; replace c2 := celB b0 c2; replace c3 := celB b0 c3; replace VK := hid (VK.out.next aI_nx b0); replace VV := hid (VV.out.next aI_nx b0); clear o0 b0 KC)
          obtain ⟨at1, nt1, ct1, et1, yt1⟩ := J0.out.own.flat
          subst et1
          have KC := hid (rPutI_any at1 nt1 ct1 x.2.1 _ z0 yt1 (by have := L.out; have := LB.out; have := LC.out; have := yt1.len; simp only [List.length_append, List.length_cons, List.length_nil] at *; omega) OK0.out.2.1 OK0.out.2.2)
          clear yt1
          go_upto_region 14 with (go_at_call 36; (with_reducible refine Calls.mono KC.out ?_); rintro e z1 ⟨⟨u1, rfl, o1⟩, b1⟩; have J1 := hid (J0.out.on o1 b1); replace d0 := celB b1 d0; replace c0 := celB b1 c0; replace c1 := celB b1 c1; replace c2 := celB b1 c2; replace c3 := celB b1 c3; replace VK := hid (VK.out.next aI_nx b1); replace VV := hid (VV.out.next aI_nx b1); clear o1 b1 KC)
          obtain ⟨at2, nt2, ct2, et2, yt2⟩ := J1.out.own.flat
          subst et2
          have KC := hid (ref14_ints_any at2 nt2 ct2 _ z1 yt2 _ _ kc x.2.2.1 VK.out (by have := L.out; have := LB.out; have := LC.out; have := yt2.len; simp only [List.length_append, List.length_cons, List.length_nil] at *; omega))
          clear yt2
          go_upto_region 15 with (go_at_call 37; (with_reducible refine Calls.mono KC.out ?_); rintro e z2 ⟨⟨u2, rfl, o2⟩, b2⟩; have J2 := hid (J1.out.on o2 b2); replace d0 := celB b2 d0; replace c0 := celB b2 c0; replace c1 := celB b2 c1; replace c2 := celB b2 c2; replace c3 := celB b2 c3; replace VK := hid (VK.out.next aI_nx b2); replace VV := hid (VV.out.next aI_nx b2); clear o2 b2 KC)
          obtain ⟨at3, nt3, ct3, et3, yt3⟩ := J2.out.own.flat
          subst et3
          have KC := hid (ref14_ints_any at3 nt3 ct3 _ z2 yt3 _ _ vc x.2.2.2 VV.out (by have := L.out; have := LB.out; have := LC.out; have := yt3.len; simp only [List.length_append, List.length_cons, List.length_nil] at *; omega))
          clear yt3
          go_wp2_with (go_at_call 37; (with_reducible refine Calls.mono KC.out ?_); rintro e z3 ⟨⟨u3, rfl, o3⟩, b3⟩; have J3 := hid (J2.out.on o3 b3); skip; skip; clear o3 b3 KC)
          go_roundg (m1 - (i + 1))
          case measure => omega
          case rel => exact ⟨i + 1, by omega, rfl, by rw [Int.natCast_add]; rfl, hid (Ri.cast J3.out (by
            rw [← HT.out]
            rw [show (cT false).en x = cI.en x.1 ++ (cI.en x.2.1 ++ ((cL false cI).en x.2.2.1 ++ (cL false cI).en x.2.2.2)) from rfl]; simp only [List.append_assoc]; rfl))⟩
        · have q' : ¬ (i : Int) < (m1 : Int) := by omega
          have T0 : p1.take i = p1 := List.take_of_length_le (by rw [LL.out.2.1]; omega)
          have dz := (X1.out.next hI.out.bl).cell 1 _ rfl
          rw [T0] at hI
          clear T0
          obtain ⟨we5, hwe⟩ : ∃ x, x = wr := ⟨_, rfl⟩
          subst hwe
          have HE5 := hid hI.out
          clear hI
          have dy := (X1.out.next HE5.out.bl).cell 2 _ rfl
          obtain ⟨ak2, nk2, ck2, ek2, yk2⟩ := HE5.out.own.flat
          subst ek2
          have KC := hid (ref14_kinds_any ak2 nk2 ck2 _ we5 yk2 a2 m2 c2 p2 (V.out.2.2.1.next aI_nx HE5.out.bl) (by have := L.out; have := yk2.len; simp only [List.length_append, List.length_cons, List.length_nil] at *; omega))
          clear yk2
          go_upto_region 17 with (go_at_call 38; (with_reducible refine Calls.mono KC.out ?_); rintro e xk2 ⟨⟨vk2, rfl, ok2⟩, bk2⟩; have Ik2 := hid (HE5.out.on ok2 bk2); clear ok2 bk2 KC)
          clear dy dz
          have dy := (X1.out.next Ik2.out.bl).cell 3 _ rfl
          obtain ⟨ak3, nk3, ck3, ek3, yk3⟩ := Ik2.out.own.flat
          subst ek3
          have KC := hid (ref14_kinds_any ak3 nk3 ck3 _ xk2 yk3 a3 m3 c3 p3 (V.out.2.2.2.1.next aI_nx Ik2.out.bl) (by have := L.out; have := yk3.len; simp only [List.length_append, List.length_cons, List.length_nil] at *; omega))
          clear yk3
          go_upto_region 18 with (go_at_call 38; (with_reducible refine Calls.mono KC.out ?_); rintro e xk3 ⟨⟨vk3, rfl, ok3⟩, bk3⟩; have Ik3 := hid (Ik2.out.on ok3 bk3); clear ok3 bk3 KC)
          clear dy
          have dy := (X1.out.next Ik3.out.bl).cell 4 _ rfl
          obtain ⟨ak4, nk4, ck4, ek4, yk4⟩ := Ik3.out.own.flat
          subst ek4
          have KC := hid (ref14_kinds_any ak4 nk4 ck4 _ xk3 yk4 a4 m4 c4 p4 (V.out.2.2.2.2.1.next aI_nx Ik3.out.bl) (by have := L.out; have := yk4.len; simp only [List.length_append, List.length_cons, List.length_nil] at *; omega))
          clear yk4
          go_upto_region 19 with (go_at_call 38; (with_reducible refine Calls.mono KC.out ?_); rintro e xk4 ⟨⟨vk4, rfl, ok4⟩, bk4⟩; have Ik4 := hid (Ik3.out.on ok4 bk4); clear ok4 bk4 KC)
          clear dy
          have dy := (X1.out.next Ik4.out.bl).cell 5 _ rfl
          obtain ⟨an5, nn5, cn5, en5, yn5⟩ := Ik4.out.own.flat
          subst en5
          have KC := hid (ref14_many_any an5 nn5 cn5 m5 _ xk4 yn5 (by have := L.out; have := yn5.len; simp only [List.length_append, List.length_cons, List.length_nil] at *; omega) (by omega))
          clear yn5
          go_upto_region 20 with (go_at_call 35; (with_reducible refine Calls.mono KC.out ?_); rintro e xn5 ⟨⟨vn5, rfl, on5⟩, bn5⟩; have In5 := hid (Ik4.out.on on5 bn5); clear on5 bn5 KC)
          clear dy
          go_wp2_with fail
          go_loopg [3, 6] m5 (fun g bv kv wr => ∃ i : Nat, i ≤ m5 ∧ g = m5 - i ∧ kv = .int .i64 (i : Nat) ∧ Hid (Ri w1 wr bv ([70, 73, 83, 67] ++ enc m0 ++ (p0.map cC.en).flatten ++ enc m1 ++ (p1.map (cT false).en).flatten ++ (cL false cI).en p2 ++ (cL false cI).en p3 ++ (cL false cI).en p4 ++ enc m5 ++ ((p5.take i).map cS.en).flatten)))
          case atStart => exact ⟨0, Nat.zero_le _, rfl, rfl, hid (Ri.cast In5.out (by simp))⟩
          case round =>
            obtain ⟨i, hi, rfl, rfl, hI⟩ := hrel
            by_cases q : i < m5
            · have q' : (i : Int) < (m5 : Int) := by omega
              obtain ⟨g, o, x, rfl, hx, hA0, ht⟩ := V.out.2.2.2.2.2.1.get q
              have hA := aS_nx _ _ _ _ _ hA0 hI.out.bl
              have HT := hid (next_en cS.en ([70, 73, 83, 67] ++ enc m0 ++ (p0.map cC.en).flatten ++ enc m1 ++ (p1.map (cT false).en).flatten ++ (cL false cI).en p2 ++ (cL false cI).en p3 ++ (cL false cI).en p4 ++ enc m5) ht)
              have LB := hid (mem_len (c := cS) ht)
              have d0 := (X1.out.next hI.out.bl).cell 5 _ rfl
              clear hA0 ht hx
              rw [Nat.mul_one] at hA
              obtain ⟨s, c0, rfl, sz⟩ := hA
              have LC := hid trivial
              clear sz
              obtain ⟨wi, hwi⟩ : ∃ x, x = wr := ⟨_, rfl⟩
              subst hwi
              obtain ⟨at0, nt0, ct0, et0, yt0⟩ := hI.out.own.flat
              subst et0
              have KC := hid (rPutS_any at0 nt0 ct0 s _ wi yt0 (by have := L.out; have := LB.out; have := LC.out; have := yt0.len; simp only [List.length_append, List.length_cons, List.length_nil] at *; omega) (by have h1 := L.out; have h2 := LB.out; rw [show cS.en (nums s) = enc (nums s).length ++ nums s from rfl] at h2; simp only [List.length_append, nums_len] at *; omega))
              clear yt0
              go_wp2_with (go_at_call 39; (with_reducible refine Calls.mono KC.out ?_); rintro e z0 ⟨⟨u0, rfl, o0⟩, b0⟩; have J0 := hid (hI.out.on o0 b0); skip; skip; clear o0 b0 KC)
              go_roundg (m5 - (i + 1))
              case measure => omega
              case rel => exact ⟨i + 1, by omega, rfl, by rw [Int.natCast_add]; rfl, hid (Ri.cast J0.out (by
                rw [← HT.out]
                rw [show cS.en (nums s) = enc s.size ++ nums s from by show enc (nums s).length ++ _ = _; rw [nums_len]]; simp only [List.append_assoc]))⟩
            · have q' : ¬ (i : Int) < (m5 : Int) := by omega
              have T0 : p5.take i = p5 := List.take_of_length_le (by rw [LL.out.2.2.1]; omega)
              have dz := (X1.out.next hI.out.bl).cell 5 _ rfl
              rw [T0] at hI
              clear T0
              obtain ⟨we6, hwe⟩ : ∃ x, x = wr := ⟨_, rfl⟩
              subst hwe
              have HE6 := hid hI.out
              clear hI
              have dy := (X1.out.next HE6.out.bl).cell 6 _ rfl
              obtain ⟨an6, nn6, cn6, en6, yn6⟩ := HE6.out.own.flat
              subst en6
              have KC := hid (ref14_many_any an6 nn6 cn6 m6 _ we6 yn6 (by have := L.out; have := yn6.len; simp only [List.length_append, List.length_cons, List.length_nil] at *; omega) (by omega))
              clear yn6
              go_upto_region 25 with (go_at_call 35; (with_reducible refine Calls.mono KC.out ?_); rintro e xn6 ⟨⟨vn6, rfl, on6⟩, bn6⟩; have In6 := hid (HE6.out.on on6 bn6); clear on6 bn6 KC)
              clear dy dz
              go_wp2_with fail
              go_loopg [3, 7] m6 (fun g bv kv wr => ∃ i : Nat, i ≤ m6 ∧ g = m6 - i ∧ kv = .int .i64 (i : Nat) ∧ Hid (Ri w1 wr bv ([70, 73, 83, 67] ++ enc m0 ++ (p0.map cC.en).flatten ++ enc m1 ++ (p1.map (cT false).en).flatten ++ (cL false cI).en p2 ++ (cL false cI).en p3 ++ (cL false cI).en p4 ++ enc m5 ++ (p5.map cS.en).flatten ++ enc m6 ++ ((p6.take i).map cN.en).flatten)))
              case atStart => exact ⟨0, Nat.zero_le _, rfl, rfl, hid (Ri.cast In6.out (by simp))⟩
              case round =>
                obtain ⟨i, hi, rfl, rfl, hI⟩ := hrel
                by_cases q : i < m6
                · have q' : (i : Int) < (m6 : Int) := by omega
                  obtain ⟨g, o, x, rfl, hx, hA0, ht⟩ := V.out.2.2.2.2.2.2.get q
                  have hA := aN_nx _ _ _ _ _ hA0 hI.out.bl
                  have HT := hid (next_en cN.en ([70, 73, 83, 67] ++ enc m0 ++ (p0.map cC.en).flatten ++ enc m1 ++ (p1.map (cT false).en).flatten ++ (cL false cI).en p2 ++ (cL false cI).en p3 ++ (cL false cI).en p4 ++ enc m5 ++ (p5.map cS.en).flatten ++ enc m6) ht)
                  have LB := hid (mem_len (c := cN) ht)
                  have d0 := (X1.out.next hI.out.bl).cell 6 _ rfl
                  clear hA0 ht hx
                  obtain ⟨c0, c1, c2, c3, ok0⟩ := hA
                  have OK0 := hid ok0
                  clear ok0
                  have LC := hid (show (cN.en x).length = (enc (zig x.1)).length + ((enc (zig x.2.1)).length + ((enc (zig x.2.2.1)).length + (enc (zig x.2.2.2)).length)) from by rw [show cN.en x = enc (zig x.1) ++ (enc (zig x.2.1) ++ (enc (zig x.2.2.1) ++ enc (zig x.2.2.2))) from rfl]; simp only [List.length_append])
                  obtain ⟨wi, hwi⟩ : ∃ x, x = wr := ⟨_, rfl⟩
                  subst hwi
                  obtain ⟨at0, nt0, ct0, et0, yt0⟩ := hI.out.own.flat
                  subst et0
                  have KC := hid (rPutI_any at0 nt0 ct0 x.1 _ wi yt0 (by have := L.out; have := LB.out; have := LC.out; have := yt0.len; simp only [List.length_append, List.length_cons, List.length_nil] at *; omega) OK0.out.1.1 OK0.out.1.2)
                  clear yt0
                  go_upto_region 29 with (go_at_call 36; (with_reducible refine Calls.mono KC.out ?_); rintro e z0 ⟨⟨u0, rfl, o0⟩, b0⟩; have J0 := hid (hI.out.on o0 b0); replace d0 := celB b0 d0; replace c0 := celB b0 c0; replace c1 := celB b0 c1; replace c2 := celB b0 c2; replace c3 := celB b0 c3; skip; clear o0 b0 KC)
                  obtain ⟨at1, nt1, ct1, et1, yt1⟩ := J0.out.own.flat
                  subst et1
                  have KC := hid (rPutI_any at1 nt1 ct1 x.2.1 _ z0 yt1 (by have := L.out; have := LB.out; have := LC.out; have := yt1.len; simp only [List.length_append, List.length_cons, List.length_nil] at *; omega) OK0.out.2.1.1 OK0.out.2.1.2)
                  clear yt1
                  go_upto_region 30 with (go_at_call 36; (with_reducible refine Calls.mono KC.out ?_); rintro e z1 ⟨⟨u1, rfl, o1⟩, b1⟩; have J1 := hid (J0.out.on o1 b1); replace d0 := celB b1 d0; replace c0 := celB b1 c0; replace c1 := celB b1 c1; replace c2 := celB b1 c2; replace c3 := celB b1 c3; skip; clear o1 b1 KC)
                  obtain ⟨at2, nt2, ct2, et2, yt2⟩ := J1.out.own.flat
                  subst et2
                  have KC := hid (rPutI_any at2 nt2 ct2 x.2.2.1 _ z1 yt2 (by have := L.out; have := LB.out; have := LC.out; have := yt2.len; simp only [List.length_append, List.length_cons, List.length_nil] at *; omega) OK0.out.2.2.1.1 OK0.out.2.2.1.2)
                  clear yt2
                  go_upto_region 31 with (go_at_call 36; (with_reducible refine Calls.mono KC.out ?_); rintro e z2 ⟨⟨u2, rfl, o2⟩, b2⟩; have J2 := hid (J1.out.on o2 b2); replace d0 := celB b2 d0; replace c0 := celB b2 c0; replace c1 := celB b2 c1; replace c2 := celB b2 c2; replace c3 := celB b2 c3; skip; clear o2 b2 KC)
                  obtain ⟨at3, nt3, ct3, et3, yt3⟩ := J2.out.own.flat
                  subst et3
                  have KC := hid (rPutI_any at3 nt3 ct3 x.2.2.2 _ z2 yt3 (by have := L.out; have := LB.out; have := LC.out; have := yt3.len; simp only [List.length_append, List.length_cons, List.length_nil] at *; omega) OK0.out.2.2.2.1 OK0.out.2.2.2.2)
                  clear yt3
                  go_wp2_with (go_at_call 36; (with_reducible refine Calls.mono KC.out ?_); rintro e z3 ⟨⟨u3, rfl, o3⟩, b3⟩; have J3 := hid (J2.out.on o3 b3); skip; skip; clear o3 b3 KC)
                  go_roundg (m6 - (i + 1))
                  case measure => omega
                  case rel => exact ⟨i + 1, by omega, rfl, by rw [Int.natCast_add]; rfl, hid (Ri.cast J3.out (by
                    rw [← HT.out]
                    rw [show cN.en x = cI.en x.1 ++ (cI.en x.2.1 ++ (cI.en x.2.2.1 ++ cI.en x.2.2.2)) from rfl]; simp only [List.append_assoc]; rfl))⟩
                · have q' : ¬ (i : Int) < (m6 : Int) := by omega
                  have T0 : p6.take i = p6 := List.take_of_length_le (by rw [LL.out.2.2.2]; omega)
                  have dz := (X1.out.next hI.out.bl).cell 6 _ rfl
                  rw [T0] at hI
                  clear T0
                  obtain ⟨we7, hwe⟩ : ∃ x, x = wr := ⟨_, rfl⟩
                  subst hwe
                  have HE7 := hid hI.out
                  clear hI
                  obtain ⟨aF, nF, cF, eF, yF⟩ := HE7.out.own.flat
                  subst eF
                  have KC := hid (rSum_any aF nF cF _ we7 yF (by have := L.out; have := yF.len; simp only [List.length_append, List.length_cons, List.length_nil] at *; omega))
                  have EL := hid (show [70, 73, 83, 67] ++ enc m0 ++ (p0.map cC.en).flatten ++ enc m1 ++ (p1.map (cT false).en).flatten ++ (cL false cI).en p2 ++ (cL false cI).en p3 ++ (cL false cI).en p4 ++ enc m5 ++ (p5.map cS.en).flatten ++ enc m6 ++ (p6.map cN.en).flatten = fisc ++ ((enc m0 ++ (p0.map cC.en).flatten) ++ ((enc m1 ++ (p1.map (cT false).en).flatten) ++ ((cL false cI).en p2 ++ ((cL false cI).en p3 ++ ((cL false cI).en p4 ++ ((enc m5 ++ (p5.map cS.en).flatten) ++ (enc m6 ++ (p6.map cN.en).flatten))))))) from by show _ = [70, 73, 83, 67] ++ _; simp only [List.append_assoc])
                  rw [EL.out] at KC
                  replace HE7 := hid (Ri.cast HE7.out EL.out)
                  clear EL yF
                  have FB := hid (show (fisc ++ ((enc m0 ++ (p0.map cC.en).flatten) ++ ((enc m1 ++ (p1.map (cT false).en).flatten) ++ ((cL false cI).en p2 ++ ((cL false cI).en p3 ++ ((cL false cI).en p4 ++ ((enc m5 ++ (p5.map cS.en).flatten) ++ (enc m6 ++ (p6.map cN.en).flatten)))))))).length ≤ 9000000 from by have := L.out; show ([70, 73, 83, 67] ++ _ : List Int).length ≤ _; simp only [List.length_append, List.length_cons, List.length_nil] at *; omega)
                  obtain ⟨bs, hbs⟩ : ∃ bs, bs = fisc ++ ((enc m0 ++ (p0.map cC.en).flatten) ++ ((enc m1 ++ (p1.map (cT false).en).flatten) ++ ((cL false cI).en p2 ++ ((cL false cI).en p3 ++ ((cL false cI).en p4 ++ ((enc m5 ++ (p5.map cS.en).flatten) ++ (enc m6 ++ (p6.map cN.en).flatten))))))) := ⟨_, rfl⟩
                  rw [← hbs] at KC HE7 FB
                  have HBS := hid hbs
                  clear hbs
                  have SL : sum bs < 4294967296 := by unfold sum; omega
                  obtain ⟨s0, hs0⟩ : ∃ s, s = sum bs := ⟨_, rfl⟩
                  rw [← hs0] at KC SL
                  have HS0 := hid hs0
                  clear hs0
                  obtain ⟨s1, h1⟩ : ∃ s : Nat, s = s0 / 256 := ⟨_, rfl⟩
                  obtain ⟨s2, h2⟩ : ∃ s : Nat, s = s0 / 65536 := ⟨_, rfl⟩
                  obtain ⟨s3, h3⟩ : ∃ s : Nat, s = s0 / 16777216 := ⟨_, rfl⟩
                  obtain ⟨y0, k0⟩ : ∃ y : Int, y = ((s0 % 256 : Nat) : Int) := ⟨_, rfl⟩
                  obtain ⟨y1, k1⟩ : ∃ y : Int, y = ((s1 % 256 : Nat) : Int) := ⟨_, rfl⟩
                  obtain ⟨y2, k2⟩ : ∃ y : Int, y = ((s2 % 256 : Nat) : Int) := ⟨_, rfl⟩
                  have E4 := hid (show le4 s0 = [y0, y1, y2, (s3 : Int)] from by unfold le4; rw [k0, k1, k2, show s0 / 256 / 256 / 256 % 256 = s3 by omega, show s0 / 256 / 256 % 256 = s2 % 256 by omega, show s0 / 256 % 256 = s1 % 256 by omega])
                  have D0 : (s0 : Int) / 256 = (s1 : Int) := by omega
                  have D1 : (s0 : Int) / 65536 = (s2 : Int) := by omega
                  have D2 : (s0 : Int) / 16777216 = (s3 : Int) := by omega
                  have M0 : (s0 : Int) % 256 = y0 := by omega
                  have M1 : (s1 : Int) % 256 = y1 := by omega
                  have M2 : (s2 : Int) % 256 = y2 := by omega
                  have RR := hid (show Bys [y0, y1, y2, (s3 : Int)] from Bys.mk (by omega) (by omega) (Bys.mk (by omega) (by omega) (Bys.mk (by omega) (by omega) (Bys.mk (by omega) (by omega) Bys.nil))))
                  have S1 : s1 < 4294967296 := by omega
                  have S2 : s2 < 4294967296 := by omega
                  have S3 : s3 < 256 := by omega
                  clear h1 h2 h3 k0 k1 k2
                  go_wp2_with (first | (go_at_call 40; (with_reducible refine Calls.mono KC.out ?_); rintro e wS ⟨rfl, rfl⟩) | (at_builtin; refine wpList_append_by rfl (.tmp 160) (.tmp 172) rfl w1.heap.size _ bs rfl (HE7.out.own.below (allocB we7 _)) (some ⟨we7.heap.size, 0, none⟩) 4 4 [y0, y1, y2, (s3 : Int)] rfl (by4 _ _ _ _ _ _ RR.out) (by have := FB.out; omega) (by have := HE7.out.bl.size; simp; omega) ?_; intro vF wF oF gF))
                  go_ret
                  refine ⟨⟨vF, rfl, ?_⟩, ?_⟩
                  · rw [← HBS.out, ← HS0.out, E4.out]
                    exact oF.mono B1.out.size
                  · exact nextB B1.out (own_bl (HE7.out.bl.alloc HE7.out.bl.size _) (HE7.out.own.below (allocB we7 _)) gF)

end Go.Proofs.YtcmifdnndckpcaaDoor
