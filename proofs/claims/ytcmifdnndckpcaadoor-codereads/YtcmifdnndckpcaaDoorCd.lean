/- The walks over code's writers of lists. -/
import Derived.Test.YtcmifdnndckpcaaDoorCc
import Derived.ArgAppend
namespace Go.Proofs.YtcmifdnndckpcaaDoor
open Go.RowKit
set_option linter.unusedVariables false
set_option linter.unusedSimpArgs false

theorem flat_take {α : Type} (f : α → List Int) (xs : List α) (i : Nat) : ((xs.take i).map f).flatten.length ≤ (xs.map f).flatten.length := by
  conv => rhs; rw [← List.take_append_drop i xs]
  rw [List.map_append, List.flatten_append, List.length_append]
  omega
/-- Bytes of a call's own, or a literal's: behind it there is no room. -/
def Hd (w : World) (B : Nat) (v : Value) (bs : List Int) : Prop := Own w B v bs ∨ ∃ g o : Nat, v = .slice (some ⟨g, o, none⟩) bs.length bs.length ∧ By w (some ⟨g, o, none⟩) bs.length bs.length bs
theorem Hd.below {w w' : World} {B : Nat} {v : Value} {bs : List Int} (h : Hd w B v bs) (hb : Below w.heap.size w w') : Hd w' B v bs :=
  h.imp (fun h => h.below hb) (fun ⟨g, o, e, y⟩ => ⟨g, o, e, y.below hb⟩)
theorem wpList_append_hd {w : World} {ops : Array Oper} {rest : List Oper} {o : Oper} {a : Act} {Q : Exit → Act → World → Prop} (hgd : o.guard = none) (s x : Operand) (ho : o.op = .call { callee := .builtin .append, args := #[s, x], argTypes := #[38, 38] })
    {W0 : World} (v : Value) (xs : List Int) (hs : a.eval s = v) (hown : Hd w W0.heap.size v xs) (ad : Option Addr) (m c : Nat) (bs : List Int) (hx : a.eval x = .slice ad m c) (hb : By w ad m c bs) (hm : 1 ≤ m)
    (hbytes : xs.length + m ≤ 100000000) (hB : Below W0.heap.size W0 w)
    (h : ∀ v' w', Own w' W0.heap.size v' (xs ++ bs) → Below W0.heap.size W0 w' → Lib.OthersKept 5 none w w' → wpList Tryd.prog ops Q rest (a.put o.dst v') w') : wpList Tryd.prog ops Q (o :: rest) a w := by
  rcases hown with hown | ⟨g, of, rfl, hy⟩
  · exact wpList_append_by hgd s x ho W0.heap.size v xs hs hown ad m c bs hx hb hbytes hB.size (fun v' w' o' g' => h v' w' o' (own_bl hB hown g') (own_ok hown g'))
  · obtain ⟨i0, hi, hz0, hz1, hz2⟩ := info_parts byteInfo
    cases ad with
    | none => have := hb.none_nil; omega
    | some ad =>
      refine wpList_append_arg w hgd s x 38 ho 5 i0 (.int .u8 0) 1 1 Tryd.underlying38 hi hz0 hz1 hz2 rfl (by decide) g of xs.length xs.length (xs.map (Value.int .u8)) hs (by simp) (fun j u hu => ?_) ad m c (bs.map (Value.int .u8)) hx (by simp [hb.len]) hb.news (bytes_one bs) (fun k => by omega) (by unfold maxLen; omega) (by omega) (fun k => by omega) (fun _ v' w' o' g' => ?_)
      · have := hy.news j u hu
        rw [show (⟨g, of, none⟩ : Addr).add j = ⟨g, of + j, none⟩ by unfold Addr.add; split <;> simp_all] at this
        exact this
      · have B' : Below w.heap.size w w' := (Below.refl _ _).grown g' (Nat.le_refl _) (fun k hk => by cases hk)
        refine h v' w' (Own.mono ⟨?_, hy.ok.app hb.ok⟩ hB.size) (hB.trans (B'.mono hB.size)) ((Lib.OthersKept.refl _ _ _).below B')
        have e : (xs ++ bs).length = xs.length + m := by simp [hb.len]
        rw [e, List.map_append]
        exact o'
/-- Between two rounds of a writer of a list. -/
structure LI (W0 w wr : World) (v : Value) (bs : List Int) : Prop where
  own : Own wr W0.heap.size v bs
  bl : Below W0.heap.size W0 wr
  ok : Lib.OthersKept 5 none w wr
theorem LI.cast {W0 w wr : World} {v : Value} {bs bs' : List Int} (h : LI W0 w wr v bs) (e : bs = bs') : LI W0 w wr v bs' := e ▸ h
theorem next_en {α : Type} (f : α → List Int) {xs : List α} {i : Nat} {x : α} (p : List Int) (h : xs.take (i + 1) = xs.take i ++ [x]) : p ++ ((xs.take i).map f).flatten ++ f x = p ++ ((xs.take (i + 1)).map f).flatten := by
  rw [h, List.map_append, List.flatten_append]
  simp
set_option maxRecDepth 100000 in
set_option maxHeartbeats 8000000 in
theorem clKind_any {W0 w : World} {v : Value} {bs : List Int} {a : Option Addr} {m cap : Nat} {xs : List Int} (hV : Vw aI 1 W0 a m xs) (hO : Hd w W0.heap.size v bs) (hB : Below W0.heap.size W0 w) (hl : bs.length + ((cL false cI).en xs).length ≤ 9000000) :
    Calls Tryd.prog 28 #[v, .slice a m cap, .func (.func 29) #[] #[]] w fun e w' => Wr W0 w w' e (bs ++ (cL false cI).en xs) := by
  have EN : (cL false cI).en xs = enc m ++ (xs.map cI.en).flatten := by show enc xs.length ++ _ = _; rw [hV.len]
  rw [EN] at hl ⊢
  rw [List.length_append] at hl
  have FL := flat_len cI_good xs
  rw [hV.len] at FL
  have mb : m ≤ 9000000 := by omega
  have O := hid hO
  have B := hid hB
  have V := hid hV
  have L := hid hl
  have K := hid (pU_any none 0 0 m [] w (By.empty w) (by decide) (by omega))
  clear hV hO hB hl FL EN
  go_enter Tryd.func28, Tryd.ntmps28
  go_wp2_with fail
  refine K.out.mono ?_
  rintro e w1 ⟨⟨v1, rfl, o1⟩, b1⟩
  rw [List.nil_append] at o1
  obtain ⟨a1, c1, rfl, y1, s1, -⟩ := o1.by
  have O1 := hid (O.out.below b1)
  have Y1 := hid y1
  have B1 := hid (B.out.trans (b1.mono B.out.size))
  have K1 := hid ((Lib.OthersKept.refl 5 none w).below b1)
  clear o1 y1 s1 b1 K O B
  go_upto_region 2 with (at_builtin; refine wpList_append_hd rfl (.tmp 9) (.tmp 13) rfl v bs rfl O1.out a1 _ c1 _ rfl Y1.out (enc_pos m) (by have := L.out; omega) B1.out ?_; intro v2 w2 o2 g2 q2)
  have I2 := hid (show LI W0 w w2 v2 (bs ++ enc m) from ⟨o2, g2, K1.out.trans q2⟩)
  clear o2 g2 q2 O1 Y1 B1 K1
  go_wp2_with fail
  go_loopg [0, 8, 17] m (fun g bv iv kv wr => ∃ i : Nat, i ≤ m ∧ g = m - i ∧ kv = .int .i64 (i : Nat) ∧ Hid (LI W0 w wr bv (bs ++ enc m ++ ((xs.take i).map cI.en).flatten)))
  case atStart => exact ⟨0, Nat.zero_le _, rfl, rfl, hid (LI.cast I2.out (by simp))⟩
  case round =>
    obtain ⟨i, hi, rfl, rfl, hI⟩ := hrel
    by_cases q : i < m
    · have q' : (i : Int) < (m : Int) := by omega
      obtain ⟨g, o, x, rfl, hx, hA0, ht⟩ := V.out.get q
      have hA := aI_nx _ _ _ _ _ hA0 hI.out.bl
      have HT := hid (next_en cI.en (bs ++ enc m) ht)
      have LB := hid (show (bs ++ enc m ++ ((xs.take i).map cI.en).flatten).length ≤ 9000000 from by have := flat_take cI.en xs i; have := L.out; simp only [List.length_append]; omega)
      clear hA0 ht hx
      rw [Nat.mul_one] at hA
      obtain ⟨c0, ok0⟩ := hA
      have KC := hid (cnKind_any x hI.out.own hI.out.bl (by have := LB.out; omega) ok0)
      have KI := hid hI.out.ok
      clear hI
      go_wp2_with (go_at_call 29; with_reducible refine Calls.mono KC.out ?_; rintro e w4 ⟨⟨v4, rfl, o4⟩, b4, k4⟩; have O4 := hid o4; have B4 := hid b4; have K4 := hid k4; clear o4 b4 k4)
      go_roundg (m - (i + 1))
      case measure => omega
      case rel => exact ⟨i + 1, by omega, rfl, by rw [Int.natCast_add]; rfl, LI.cast ⟨O4.out, B4.out, KI.out.trans K4.out⟩ HT.out⟩
    · have q' : ¬ (i : Int) < (m : Int) := by omega
      have e0 : i = m := by omega
      have T0 : xs.take i = xs := List.take_of_length_le (by rw [V.out.len]; omega)
      have E0 := hid (show bs ++ enc m ++ ((xs.take i).map cI.en).flatten = bs ++ (enc m ++ (xs.map cI.en).flatten) from by rw [T0, List.append_assoc])
      clear e0 T0
      go_wp2_with fail
      go_ret
      exact ⟨⟨_, rfl, by rw [← E0.out]; exact hI.out.own⟩, hI.out.bl, hI.out.ok⟩
set_option maxRecDepth 100000 in
set_option maxHeartbeats 8000000 in
theorem clI64_any {W0 w : World} {v : Value} {bs : List Int} {a : Option Addr} {m cap : Nat} {xs : List Int} (hV : Vw aI 1 W0 a m xs) (hO : Hd w W0.heap.size v bs) (hB : Below W0.heap.size W0 w) (hl : bs.length + ((cL false cI).en xs).length ≤ 9000000) :
    Calls Tryd.prog 62 #[v, .slice a m cap, .func (.func 61) #[] #[]] w fun e w' => Wr W0 w w' e (bs ++ (cL false cI).en xs) := by
  have EN : (cL false cI).en xs = enc m ++ (xs.map cI.en).flatten := by show enc xs.length ++ _ = _; rw [hV.len]
  rw [EN] at hl ⊢
  rw [List.length_append] at hl
  have FL := flat_len cI_good xs
  rw [hV.len] at FL
  have mb : m ≤ 9000000 := by omega
  have O := hid hO
  have B := hid hB
  have V := hid hV
  have L := hid hl
  have K := hid (pU_any none 0 0 m [] w (By.empty w) (by decide) (by omega))
  clear hV hO hB hl FL EN
  go_enter Tryd.func62, Tryd.ntmps62
  go_wp2_with fail
  refine K.out.mono ?_
  rintro e w1 ⟨⟨v1, rfl, o1⟩, b1⟩
  rw [List.nil_append] at o1
  obtain ⟨a1, c1, rfl, y1, s1, -⟩ := o1.by
  have O1 := hid (O.out.below b1)
  have Y1 := hid y1
  have B1 := hid (B.out.trans (b1.mono B.out.size))
  have K1 := hid ((Lib.OthersKept.refl 5 none w).below b1)
  clear o1 y1 s1 b1 K O B
  go_upto_region 2 with (at_builtin; refine wpList_append_hd rfl (.tmp 9) (.tmp 13) rfl v bs rfl O1.out a1 _ c1 _ rfl Y1.out (enc_pos m) (by have := L.out; omega) B1.out ?_; intro v2 w2 o2 g2 q2)
  have I2 := hid (show LI W0 w w2 v2 (bs ++ enc m) from ⟨o2, g2, K1.out.trans q2⟩)
  clear o2 g2 q2 O1 Y1 B1 K1
  go_wp2_with fail
  go_loopg [0, 8, 17] m (fun g bv iv kv wr => ∃ i : Nat, i ≤ m ∧ g = m - i ∧ kv = .int .i64 (i : Nat) ∧ Hid (LI W0 w wr bv (bs ++ enc m ++ ((xs.take i).map cI.en).flatten)))
  case atStart => exact ⟨0, Nat.zero_le _, rfl, rfl, hid (LI.cast I2.out (by simp))⟩
  case round =>
    obtain ⟨i, hi, rfl, rfl, hI⟩ := hrel
    by_cases q : i < m
    · have q' : (i : Int) < (m : Int) := by omega
      obtain ⟨g, o, x, rfl, hx, hA0, ht⟩ := V.out.get q
      have hA := aI_nx _ _ _ _ _ hA0 hI.out.bl
      have HT := hid (next_en cI.en (bs ++ enc m) ht)
      have LB := hid (show (bs ++ enc m ++ ((xs.take i).map cI.en).flatten).length ≤ 9000000 from by have := flat_take cI.en xs i; have := L.out; simp only [List.length_append]; omega)
      clear hA0 ht hx
      rw [Nat.mul_one] at hA
      obtain ⟨c0, ok0⟩ := hA
      have KC := hid (cnI64_any x hI.out.own hI.out.bl (by have := LB.out; omega) ok0)
      have KI := hid hI.out.ok
      clear hI
      go_wp2_with (go_at_call 61; with_reducible refine Calls.mono KC.out ?_; rintro e w4 ⟨⟨v4, rfl, o4⟩, b4, k4⟩; have O4 := hid o4; have B4 := hid b4; have K4 := hid k4; clear o4 b4 k4)
      go_roundg (m - (i + 1))
      case measure => omega
      case rel => exact ⟨i + 1, by omega, rfl, by rw [Int.natCast_add]; rfl, LI.cast ⟨O4.out, B4.out, KI.out.trans K4.out⟩ HT.out⟩
    · have q' : ¬ (i : Int) < (m : Int) := by omega
      have e0 : i = m := by omega
      have T0 : xs.take i = xs := List.take_of_length_le (by rw [V.out.len]; omega)
      have E0 := hid (show bs ++ enc m ++ ((xs.take i).map cI.en).flatten = bs ++ (enc m ++ (xs.map cI.en).flatten) from by rw [T0, List.append_assoc])
      clear e0 T0
      go_wp2_with fail
      go_ret
      exact ⟨⟨_, rfl, by rw [← E0.out]; exact hI.out.own⟩, hI.out.bl, hI.out.ok⟩
set_option maxRecDepth 100000 in
set_option maxHeartbeats 8000000 in
theorem clStr_any {W0 w : World} {v : Value} {bs : List Int} {a : Option Addr} {m cap : Nat} {xs : List (List Int)} (hV : Vw aS 1 W0 a m xs) (hO : Hd w W0.heap.size v bs) (hB : Below W0.heap.size W0 w) (hl : bs.length + ((cL false cS).en xs).length ≤ 9000000) :
    Calls Tryd.prog 30 #[v, .slice a m cap, .func (.func 31) #[] #[]] w fun e w' => Wr W0 w w' e (bs ++ (cL false cS).en xs) := by
  have EN : (cL false cS).en xs = enc m ++ (xs.map cS.en).flatten := by show enc xs.length ++ _ = _; rw [hV.len]
  rw [EN] at hl ⊢
  rw [List.length_append] at hl
  have FL := flat_len cS_good xs
  rw [hV.len] at FL
  have mb : m ≤ 9000000 := by omega
  have O := hid hO
  have B := hid hB
  have V := hid hV
  have L := hid hl
  have K := hid (pU_any none 0 0 m [] w (By.empty w) (by decide) (by omega))
  clear hV hO hB hl FL EN
  go_enter Tryd.func30, Tryd.ntmps30
  go_wp2_with fail
  refine K.out.mono ?_
  rintro e w1 ⟨⟨v1, rfl, o1⟩, b1⟩
  rw [List.nil_append] at o1
  obtain ⟨a1, c1, rfl, y1, s1, -⟩ := o1.by
  have O1 := hid (O.out.below b1)
  have Y1 := hid y1
  have B1 := hid (B.out.trans (b1.mono B.out.size))
  have K1 := hid ((Lib.OthersKept.refl 5 none w).below b1)
  clear o1 y1 s1 b1 K O B
  go_upto_region 2 with (at_builtin; refine wpList_append_hd rfl (.tmp 9) (.tmp 13) rfl v bs rfl O1.out a1 _ c1 _ rfl Y1.out (enc_pos m) (by have := L.out; omega) B1.out ?_; intro v2 w2 o2 g2 q2)
  have I2 := hid (show LI W0 w w2 v2 (bs ++ enc m) from ⟨o2, g2, K1.out.trans q2⟩)
  clear o2 g2 q2 O1 Y1 B1 K1
  go_wp2_with fail
  go_loopg [0, 8, 17] m (fun g bv iv kv wr => ∃ i : Nat, i ≤ m ∧ g = m - i ∧ kv = .int .i64 (i : Nat) ∧ Hid (LI W0 w wr bv (bs ++ enc m ++ ((xs.take i).map cS.en).flatten)))
  case atStart => exact ⟨0, Nat.zero_le _, rfl, rfl, hid (LI.cast I2.out (by simp))⟩
  case round =>
    obtain ⟨i, hi, rfl, rfl, hI⟩ := hrel
    by_cases q : i < m
    · have q' : (i : Int) < (m : Int) := by omega
      obtain ⟨g, o, x, rfl, hx, hA0, ht⟩ := V.out.get q
      have hA := aS_nx _ _ _ _ _ hA0 hI.out.bl
      have HT := hid (next_en cS.en (bs ++ enc m) ht)
      have LB := hid (show (bs ++ enc m ++ ((xs.take i).map cS.en).flatten).length ≤ 9000000 from by have := flat_take cS.en xs i; have := L.out; simp only [List.length_append]; omega)
      have SZ0 := hid (show x.length ≤ 9000000 from by
        have h1 := flat_take cS.en xs (i + 1)
        rw [ht, List.map_append, List.flatten_append] at h1
        have h2 : (cS.en x).length = (enc x.length).length + x.length := by show (enc x.length ++ x).length = _; rw [List.length_append]
        simp only [List.length_append, List.map_cons, List.map_nil, List.flatten_cons, List.flatten_nil, List.append_nil] at h1
        have := L.out
        omega)
      clear hA0 ht hx
      rw [Nat.mul_one] at hA
      obtain ⟨s, c0, rfl, sz⟩ := hA
      have SZ := hid (show s.size ≤ 10000000 from by have := SZ0.out; rw [nums_len] at this; omega)
      have KC := hid (code_text_any s hI.out.own hI.out.bl (by have := LB.out; omega) SZ.out)
      have KI := hid hI.out.ok
      clear hI
      go_wp2_with (go_at_call 31; with_reducible refine Calls.mono KC.out ?_; rintro e w4 ⟨⟨v4, rfl, o4⟩, b4, k4⟩; have O4 := hid o4; have B4 := hid b4; have K4 := hid k4; clear o4 b4 k4)
      go_roundg (m - (i + 1))
      case measure => omega
      case rel => exact ⟨i + 1, by omega, rfl, by rw [Int.natCast_add]; rfl, LI.cast ⟨O4.out, B4.out, KI.out.trans K4.out⟩ HT.out⟩
    · have q' : ¬ (i : Int) < (m : Int) := by omega
      have e0 : i = m := by omega
      have T0 : xs.take i = xs := List.take_of_length_le (by rw [V.out.len]; omega)
      have E0 := hid (show bs ++ enc m ++ ((xs.take i).map cS.en).flatten = bs ++ (enc m ++ (xs.map cS.en).flatten) from by rw [T0, List.append_assoc])
      clear e0 T0
      go_wp2_with fail
      go_ret
      exact ⟨⟨_, rfl, by rw [← E0.out]; exact hI.out.own⟩, hI.out.bl, hI.out.ok⟩
set_option maxRecDepth 100000 in
set_option maxHeartbeats 8000000 in
theorem clVal_any {W0 w : World} {v : Value} {bs : List Int} {a : Option Addr} {m cap : Nat} {xs : List (Int × Int)} (hV : Vw aC 3 W0 a m xs) (hO : Hd w W0.heap.size v bs) (hB : Below W0.heap.size W0 w) (hl : bs.length + ((cL false cC).en xs).length ≤ 9000000) :
    Calls Tryd.prog 24 #[v, .slice a m cap, .func (.func 25) #[] #[]] w fun e w' => Wr W0 w w' e (bs ++ (cL false cC).en xs) := by
  have EN : (cL false cC).en xs = enc m ++ (xs.map cC.en).flatten := by show enc xs.length ++ _ = _; rw [hV.len]
  rw [EN] at hl ⊢
  rw [List.length_append] at hl
  have FL := flat_len cC_good xs
  rw [hV.len] at FL
  have mb : m ≤ 9000000 := by omega
  have O := hid hO
  have B := hid hB
  have V := hid hV
  have L := hid hl
  have K := hid (pU_any none 0 0 m [] w (By.empty w) (by decide) (by omega))
  clear hV hO hB hl FL EN
  go_enter Tryd.func24, Tryd.ntmps24
  go_wp2_with fail
  refine K.out.mono ?_
  rintro e w1 ⟨⟨v1, rfl, o1⟩, b1⟩
  rw [List.nil_append] at o1
  obtain ⟨a1, c1, rfl, y1, s1, -⟩ := o1.by
  have O1 := hid (O.out.below b1)
  have Y1 := hid y1
  have B1 := hid (B.out.trans (b1.mono B.out.size))
  have K1 := hid ((Lib.OthersKept.refl 5 none w).below b1)
  clear o1 y1 s1 b1 K O B
  go_upto_region 2 with (at_builtin; refine wpList_append_hd rfl (.tmp 9) (.tmp 13) rfl v bs rfl O1.out a1 _ c1 _ rfl Y1.out (enc_pos m) (by have := L.out; omega) B1.out ?_; intro v2 w2 o2 g2 q2)
  have I2 := hid (show LI W0 w w2 v2 (bs ++ enc m) from ⟨o2, g2, K1.out.trans q2⟩)
  clear o2 g2 q2 O1 Y1 B1 K1
  go_wp2_with fail
  go_loopg [0, 8, 17] m (fun g bv iv kv wr => ∃ i : Nat, i ≤ m ∧ g = m - i ∧ kv = .int .i64 (i : Nat) ∧ Hid (LI W0 w wr bv (bs ++ enc m ++ ((xs.take i).map cC.en).flatten)))
  case atStart => exact ⟨0, Nat.zero_le _, rfl, rfl, hid (LI.cast I2.out (by simp))⟩
  case round =>
    obtain ⟨i, hi, rfl, rfl, hI⟩ := hrel
    by_cases q : i < m
    · have q' : (i : Int) < (m : Int) := by omega
      obtain ⟨g, o, x, rfl, hx, hA0, ht⟩ := V.out.get q
      have hA := aC_nx _ _ _ _ _ hA0 hI.out.bl
      have HT := hid (next_en cC.en (bs ++ enc m) ht)
      have LB := hid (show (bs ++ enc m ++ ((xs.take i).map cC.en).flatten).length ≤ 9000000 from by have := flat_take cC.en xs i; have := L.out; simp only [List.length_append]; omega)
      clear hA0 ht hx
      obtain ⟨c0, c1, ⟨a2, m2, n2, c2⟩, ok0⟩ := hA
      have O3 := hid (hI.out.own.below (allocB wr (.cells #[.int .i64 x.1, .int .i64 x.2, .slice a2 m2 n2] 62)))
      have B3 := hid (hI.out.bl.alloc hI.out.bl.size (.cells #[.int .i64 x.1, .int .i64 x.2, .slice a2 m2 n2] 62))
      have X3 := hid (Bx.new wr #[.int .i64 x.1, .int .i64 x.2, .slice a2 m2 n2] 62 (by decide))
      have K3 := hid (hI.out.ok.alloc (.cells #[.int .i64 x.1, .int .i64 x.2, .slice a2 m2 n2] 62))
      clear hI
      go_upto_region 5 with fail
      clear c0 c1 c2
      generalize World.alloc wr _ = w3 at *
      generalize wr.heap.size = xb at *
      have d0 := X3.out.cell 0 _ rfl
      have d1 := X3.out.cell 1 _ rfl
      have d2 := X3.out.cell 2 _ rfl
      have KC := hid (code_constant_any x.1 x.2 a2 m2 n2 O3.out B3.out (by have := LB.out; omega) ok0.1 ok0.2)
      go_wp2_with (go_at_call 25; with_reducible refine Calls.mono KC.out ?_; rintro e w4 ⟨⟨v4, rfl, o4⟩, b4, k4⟩; have O4 := hid o4; have B4 := hid b4; have K4 := hid k4; clear o4 b4 k4)
      go_roundg (m - (i + 1))
      case measure => omega
      case rel => exact ⟨i + 1, by omega, rfl, by rw [Int.natCast_add]; rfl, LI.cast ⟨O4.out, B4.out, K3.out.trans K4.out⟩ HT.out⟩
    · have q' : ¬ (i : Int) < (m : Int) := by omega
      have e0 : i = m := by omega
      have T0 : xs.take i = xs := List.take_of_length_le (by rw [V.out.len]; omega)
      have E0 := hid (show bs ++ enc m ++ ((xs.take i).map cC.en).flatten = bs ++ (enc m ++ (xs.map cC.en).flatten) from by rw [T0, List.append_assoc])
      clear e0 T0
      go_wp2_with fail
      go_ret
      exact ⟨⟨_, rfl, by rw [← E0.out]; exact hI.out.own⟩, hI.out.bl, hI.out.ok⟩
set_option maxRecDepth 100000 in
set_option maxHeartbeats 8000000 in
theorem clIns_any {W0 w : World} {v : Value} {bs : List Int} {a : Option Addr} {m cap : Nat} {xs : List (Int × Int × Int × Int)} (hV : Vw aN 4 W0 a m xs) (hO : Hd w W0.heap.size v bs) (hB : Below W0.heap.size W0 w) (hl : bs.length + ((cL false cN).en xs).length ≤ 9000000) :
    Calls Tryd.prog 32 #[v, .slice a m cap, .func (.func 33) #[] #[]] w fun e w' => Wr W0 w w' e (bs ++ (cL false cN).en xs) := by
  have EN : (cL false cN).en xs = enc m ++ (xs.map cN.en).flatten := by show enc xs.length ++ _ = _; rw [hV.len]
  rw [EN] at hl ⊢
  rw [List.length_append] at hl
  have FL := flat_len cN_good xs
  rw [hV.len] at FL
  have mb : m ≤ 9000000 := by omega
  have O := hid hO
  have B := hid hB
  have V := hid hV
  have L := hid hl
  have K := hid (pU_any none 0 0 m [] w (By.empty w) (by decide) (by omega))
  clear hV hO hB hl FL EN
  go_enter Tryd.func32, Tryd.ntmps32
  go_wp2_with fail
  refine K.out.mono ?_
  rintro e w1 ⟨⟨v1, rfl, o1⟩, b1⟩
  rw [List.nil_append] at o1
  obtain ⟨a1, c1, rfl, y1, s1, -⟩ := o1.by
  have O1 := hid (O.out.below b1)
  have Y1 := hid y1
  have B1 := hid (B.out.trans (b1.mono B.out.size))
  have K1 := hid ((Lib.OthersKept.refl 5 none w).below b1)
  clear o1 y1 s1 b1 K O B
  go_upto_region 2 with (at_builtin; refine wpList_append_hd rfl (.tmp 9) (.tmp 13) rfl v bs rfl O1.out a1 _ c1 _ rfl Y1.out (enc_pos m) (by have := L.out; omega) B1.out ?_; intro v2 w2 o2 g2 q2)
  have I2 := hid (show LI W0 w w2 v2 (bs ++ enc m) from ⟨o2, g2, K1.out.trans q2⟩)
  clear o2 g2 q2 O1 Y1 B1 K1
  go_wp2_with fail
  go_loopg [0, 8, 17] m (fun g bv iv kv wr => ∃ i : Nat, i ≤ m ∧ g = m - i ∧ kv = .int .i64 (i : Nat) ∧ Hid (LI W0 w wr bv (bs ++ enc m ++ ((xs.take i).map cN.en).flatten)))
  case atStart => exact ⟨0, Nat.zero_le _, rfl, rfl, hid (LI.cast I2.out (by simp))⟩
  case round =>
    obtain ⟨i, hi, rfl, rfl, hI⟩ := hrel
    by_cases q : i < m
    · have q' : (i : Int) < (m : Int) := by omega
      obtain ⟨g, o, x, rfl, hx, hA0, ht⟩ := V.out.get q
      have hA := aN_nx _ _ _ _ _ hA0 hI.out.bl
      have HT := hid (next_en cN.en (bs ++ enc m) ht)
      have LB := hid (show (bs ++ enc m ++ ((xs.take i).map cN.en).flatten).length ≤ 9000000 from by have := flat_take cN.en xs i; have := L.out; simp only [List.length_append]; omega)
      clear hA0 ht hx
      obtain ⟨c0, c1, c2, c3, ok0⟩ := hA
      have O3 := hid (hI.out.own.below (allocB wr (.cells #[.int .i64 x.1, .int .i64 x.2.1, .int .i64 x.2.2.1, .int .i64 x.2.2.2] 36)))
      have B3 := hid (hI.out.bl.alloc hI.out.bl.size (.cells #[.int .i64 x.1, .int .i64 x.2.1, .int .i64 x.2.2.1, .int .i64 x.2.2.2] 36))
      have X3 := hid (Bx.new wr #[.int .i64 x.1, .int .i64 x.2.1, .int .i64 x.2.2.1, .int .i64 x.2.2.2] 36 (by decide))
      have K3 := hid (hI.out.ok.alloc (.cells #[.int .i64 x.1, .int .i64 x.2.1, .int .i64 x.2.2.1, .int .i64 x.2.2.2] 36))
      clear hI
      go_upto_region 5 with fail
      clear c0 c1 c2 c3
      generalize World.alloc wr _ = w3 at *
      generalize wr.heap.size = xb at *
      have d0 := X3.out.cell 0 _ rfl
      have d1 := X3.out.cell 1 _ rfl
      have d2 := X3.out.cell 2 _ rfl
      have d3 := X3.out.cell 3 _ rfl
      have KC := hid (code_instr_any x.1 x.2.1 x.2.2.1 x.2.2.2 O3.out B3.out (by have := LB.out; omega) ok0.1 ok0.2.1 ok0.2.2.1 ok0.2.2.2)
      go_wp2_with (go_at_call 33; with_reducible refine Calls.mono KC.out ?_; rintro e w4 ⟨⟨v4, rfl, o4⟩, b4, k4⟩; have O4 := hid o4; have B4 := hid b4; have K4 := hid k4; clear o4 b4 k4)
      go_roundg (m - (i + 1))
      case measure => omega
      case rel => exact ⟨i + 1, by omega, rfl, by rw [Int.natCast_add]; rfl, LI.cast ⟨O4.out, B4.out, K3.out.trans K4.out⟩ HT.out⟩
    · have q' : ¬ (i : Int) < (m : Int) := by omega
      have e0 : i = m := by omega
      have T0 : xs.take i = xs := List.take_of_length_le (by rw [V.out.len]; omega)
      have E0 := hid (show bs ++ enc m ++ ((xs.take i).map cN.en).flatten = bs ++ (enc m ++ (xs.map cN.en).flatten) from by rw [T0, List.append_assoc])
      clear e0 T0
      go_wp2_with fail
      go_ret
      exact ⟨⟨_, rfl, by rw [← E0.out]; exact hI.out.own⟩, hI.out.bl, hI.out.ok⟩

end Go.Proofs.YtcmifdnndckpcaaDoor
