/- The walk over the laws' 'awake': what the document tells of a few bytes. -/
import Derived.Test.YtgjimoihbbogdaaDoorW7
import Derived.Test.YtgjimoihbbogdaaDoorW4
import Derived.Lib.SlBytesConst
namespace Go.Proofs.YtgjimoihbbogdaaDoor
open Go.RowKit
set_option linter.unusedVariables false

theorem enc300 : enc 300 = [172, 2] := by rw [enc_ge (by decide), enc_lt (by decide)]; rfl
theorem enc1 : enc 1 = [1] := by rw [enc_lt (by decide)]; rfl
theorem enc2 : enc 2 = [2] := by rw [enc_lt (by decide)]; rfl
theorem sum9 : sum [49, 50, 51, 52, 53, 54, 55, 56, 57] = 3421780262 := by decide +kernel
theorem By.other {w w' : World} {a : Option Addr} {n cap p : Nat} {bs : List Int} (h : By w a n cap bs) (hg : w.grownBy w' (some p)) (hp : ∀ x, a = some x → x.block < p) : By w' a n cap bs :=
  h.grown hg (fun _ x hx e => by have := hp x hx; simp at e; omega)

theorem app0 {w w' : World} (hg : (w.alloc (.cells #[] 5)).grownBy w' (Value.ownBlock (.slice (some ⟨w.heap.size, 0, none⟩) 0 0))) : Below w.heap.size w w' :=
  (allocB w _).grown hg (by simp) (fun k hk => ((own_empty w).row.lt k hk).1)
theorem app1 {W w w' : World} {v : Value} {xs : List Int} (hb : Below W.heap.size W w) (ho : Own w W.heap.size v xs) (hg : w.grownBy w' v.ownBlock) : Below W.heap.size W w' :=
  hb.grown hg hb.size (fun k hk => (ho.row.lt k hk).1)

theorem RU_is {p q : Nat} {bad b' : Bool} {bs bs' : List Int} {u : Int} {w : World} (h : Rd w p q bad bs) (hn : bs.length ≤ 100000) (e1 : ((rU bs : Nat) : Int) = u) (e2 : (bad || rB bs) = b') (e3 : rR bs = bs') :
    Calls Tryd.prog 11 #[.pointer (some ⟨p, 0, none⟩)] w fun e w' => e = .returned (.int .u64 u) ∧ Rd w' p q b' bs' ∧ w.grownBy w' (some p) := by
  subst e1; subst e2; subst e3; exact RU_any p q bad bs w h hn
theorem RI_is {p q : Nat} {bad b' : Bool} {bs bs' : List Int} {u : Int} {w : World} (h : Rd w p q bad bs) (hn : bs.length ≤ 100000) (e1 : zag (rU bs) = u) (e2 : (bad || rB bs) = b') (e3 : rR bs = bs') :
    Calls Tryd.prog 12 #[.pointer (some ⟨p, 0, none⟩)] w fun e w' => e = .returned (.int .i64 u) ∧ Rd w' p q b' bs' ∧ w.grownBy w' (some p) := by
  subst e1; subst e2; subst e3; exact RI_any p q bad bs w h hn
theorem RS_is {p q : Nat} {bad b' : Bool} {bs bs' : List Int} {u : ByteArray} {w : World} (h : Rd w p q bad bs) (hn : bs.length ≤ 100000) (e1 : strOfNums (tU bs) = u) (e2 : (bad || tB bs) = b') (e3 : tR bs = bs') :
    Calls Tryd.prog 15 #[.pointer (some ⟨p, 0, none⟩)] w fun e w' => e = .returned (.string u) ∧ Rd w' p q b' bs' ∧ w.grownBy w' (some p) := by
  subst e1; subst e2; subst e3; exact RS_any p q bad bs w h hn
theorem str_is {w : World} {a : Option Addr} {n cap : Nat} {bs : List Int} {s : ByteArray} (h : By w a n cap bs) (e : strOfNums bs = s) : (convert 25 9 (.slice a n cap)).run Tryd.prog w = .ok (.string s) w := by
  subst e; exact h.str
def nine : Array Value := #[.int .u8 49, .int .u8 50, .int .u8 51, .int .u8 52, .int .u8 53, .int .u8 54, .int .u8 55, .int .u8 56, .int .u8 57]
theorem by_nine (w : World) : By (w.alloc (.cells nine 5 (9, 10))) (some ⟨w.heap.size, 0, none⟩) 9 9 [49, 50, 51, 52, 53, 54, 55, 56, 57] := by
  refine ⟨rfl, Nat.le_refl _, by decide, fun e => by simp at e, ⟨w.heap.size, 0, fun _ => rfl, fun i hi => ?_⟩, ?_⟩
  · rw [Nat.zero_add, World.cell?_alloc_mark]
    match i, hi with
    | 0, _ => rfl
    | 1, _ => rfl
    | 2, _ => rfl
    | 3, _ => rfl
    | 4, _ => rfl
    | 5, _ => rfl
    | 6, _ => rfl
    | 7, _ => rfl
    | 8, _ => rfl
  · intro x hx
    simp at hx
    omega

set_option maxHeartbeats 4000000 in
theorem awake_any (w : World) (ht : Tab w) : Calls Tryd.prog 9 #[] w fun e w' => e = .returned (.bool true) ∧ Below w.heap.size w w' := by
  have T : Hid (Tab w) := ht
  clear ht
  go_enter Tryd.func9, Tryd.ntmps9
  go_wp2_with fail
  refine (pU_any none 0 0 300 [] w (By.empty w) (by decide) (by decide)).mono ?_
  rintro e w1 ⟨⟨v1, rfl, o1⟩, b1⟩
  rw [List.nil_append, enc300] at o1
  obtain ⟨a1, c1, rfl, y1, s1, -⟩ := o1.by
  have Y1 : Hid (By w1 a1 2 c1 [172, 2]) := y1
  have S1 : Hid _ := s1
  have B1 : Hid _ := b1
  clear o1 y1 s1 b1
  go_wp2_with fail
  refine (pI_any none 0 0 (-1) [] w1 (By.empty w1) (by decide) (by decide) (by decide)).mono ?_
  rintro e w2 ⟨⟨v2, rfl, o2⟩, b2⟩
  rw [List.nil_append, show zig (-1) = 1 from rfl, enc1] at o2
  obtain ⟨a2, c2, rfl, y2, s2, -⟩ := o2.by
  have Y2 : Hid (By w2 a2 1 c2 [1]) := y2
  have S2 : Hid _ := s2
  have B2 : Hid _ := b2
  clear o2 y2 s2 b2
  go_wp2_with fail
  refine (pS_any none 0 0 ⟨#[97, 98]⟩ [] w2 (By.empty w2) (by decide) (by decide)).mono ?_
  rintro e w3 ⟨⟨v3, rfl, o3⟩, b3⟩
  rw [List.nil_append, show (⟨#[97, 98]⟩ : ByteArray).size = 2 from rfl, enc2, show nums ⟨#[97, 98]⟩ = [97, 98] from rfl, show ([2] ++ [97, 98] : List Int) = [2, 97, 98] from rfl] at o3
  obtain ⟨a3, c3, rfl, y3, s3, -⟩ := o3.by
  have Z3 : Hid (By w3 a3 3 c3 [2, 97, 98]) := y3
  have Z2 : Hid (By w3 a2 1 c2 [1]) := Y2.out.below b3
  have Z1 : Hid (By w3 a1 2 c1 [172, 2]) := (Y1.out.below B2.out).below b3
  have BB : Hid (Below w.heap.size w w3) := nextB (nextB B1.out B2.out) b3
  have OLD : Hid ((∀ x, a1 = some x → x.block < w3.heap.size) ∧ (∀ x, a2 = some x → x.block < w3.heap.size) ∧ (∀ x, a3 = some x → x.block < w3.heap.size)) :=
    ⟨fun x hx => Nat.lt_of_lt_of_le (S1.out x hx).2 (Nat.le_trans B2.out.size b3.size), fun x hx => Nat.lt_of_lt_of_le (S2.out x hx).2 b3.size, fun x hx => (s3 x hx).2⟩
  clear Y1 Y2 S1 S2 B1 B2 o3 y3 s3 b3
  go_wp2_with (first | (at_builtin; refine wpList_append_by rfl (.tmp 12) (.tmp 13) rfl w3.heap.size _ [] rfl (own_empty w3) a1 2 c1 [172, 2] rfl (Z1.out.below (allocB w3 _)) (by decide) (by simp) ?_; intro v4 w4 o4 g4) | (at_builtin; refine wpList_append_by rfl (.tmp 14) (.tmp 15) rfl w3.heap.size _ ([] ++ [172, 2]) rfl o4 a2 1 c2 [1] rfl (Z2.out.below (app0 g4)) (by decide) (app0 g4).size ?_; intro v5 w5 o5 g5) | (at_builtin; refine wpList_append_by rfl (.tmp 16) (.tmp 17) rfl w3.heap.size _ ([] ++ [172, 2] ++ [1]) rfl o5 a3 3 c3 [2, 97, 98] rfl (Z3.out.below (app1 (app0 g4) o4 g5)) (by decide) (app1 (app0 g4) o4 g5).size ?_; intro v6 w6 o6 g6) | fail)
  have B6 := app1 (app1 (app0 g4) o4 g5) o5 g6
  obtain ⟨a6, c6, rfl, y6, s6, -⟩ := o6.by
  have X1 : Hid (By w6 a1 2 c1 [172, 2]) := Z1.out.below B6
  have X2 : Hid (By w6 a2 1 c2 [1]) := Z2.out.below B6
  have X3 : Hid (By w6 a3 3 c3 [2, 97, 98]) := Z3.out.below B6
  have h0 : 0 < w6.heap.size := by have := T.out.1; have := BB.out.size; have := B6.size; omega
  refine (Read_any a6 6 c6 [172, 2, 1, 2, 97, 98] w6 y6 (by decide) h0).mono ?_
  rintro e w7 ⟨p, q, rfl, r7, p1, p2, q2, b7⟩
  have V1 : Hid (By w7 a1 2 c1 [172, 2]) := X1.out.below b7
  have V2 : Hid (By w7 a2 1 c2 [1]) := X2.out.below b7
  have V3 : Hid (By w7 a3 3 c3 [2, 97, 98]) := X3.out.below b7
  have B7 : Hid (Below w.heap.size w w7) := (BB.out.trans (B6.mono BB.out.size)).trans (b7.mono (Nat.le_trans BB.out.size B6.size))
  have P : Hid (w.heap.size ≤ p ∧ (∀ x, a1 = some x → x.block < p) ∧ (∀ x, a2 = some x → x.block < p) ∧ (∀ x, a3 = some x → x.block < p)) := by
    have := BB.out.size
    have := B6.size
    exact ⟨by omega, fun x hx => by have := OLD.out.1 x hx; omega, fun x hx => by have := OLD.out.2.1 x hx; omega, fun x hx => by have := OLD.out.2.2 x hx; omega⟩
  have R7 : Hid _ := r7
  clear B6 y6 s6 X1 X2 X3 h0 p1 p2 q2 b7 r7 o4 o5 o6 g4 g5 g6 Z1 Z2 Z3 BB OLD
  go_wp2_with fail
  refine (RLeft_any p q false [172, 2, 1, 2, 97, 98] w7 R7.out).mono ?_
  rintro e w7' ⟨rfl, rfl⟩
  go_wp2_with fail
  refine (RU_is (u := 300) (b' := false) (bs' := [1, 2, 97, 98]) R7.out (by decide) (by decide +kernel) (by decide +kernel) (by decide +kernel)).mono ?_
  rintro e w8 ⟨rfl, r8, g8⟩
  have R8 : Hid _ := r8
  have G8 : Hid _ := g8
  clear r8 g8
  go_wp2_with fail
  refine (RI_is (u := -1) (b' := false) (bs' := [2, 97, 98]) R8.out (by decide) (by decide +kernel) (by decide +kernel) (by decide +kernel)).mono ?_
  rintro e w9 ⟨rfl, r9, g9⟩
  have R9 : Hid _ := r9
  have G9 : Hid _ := g9
  clear r9 g9
  go_wp2_with fail
  refine (RS_is (u := ⟨#[97, 98]⟩) (b' := false) (bs' := []) R9.out (by decide) (by decide +kernel) (by decide +kernel) (by decide +kernel)).mono ?_
  rintro e wa ⟨rfl, ra, ga⟩
  have G := grownBy_trans (grownBy_trans G8.out G9.out) ga
  have k1 := str_is (V1.out.other G P.out.2.1) (s := ⟨#[172, 2]⟩) rfl
  have k2 := str_is (V2.out.other G P.out.2.2.1) (s := ⟨#[1]⟩) rfl
  have k3 := str_is (V3.out.other G P.out.2.2.2) (s := ⟨#[2, 97, 98]⟩) rfl
  have BA : Hid (Below w.heap.size w wa) := B7.out.grown G B7.out.size (fun k hk => by simp at hk; have := P.out.1; omega)
  have RA : Hid _ := ra
  have TA : Hid (Tab (wa.alloc (.cells nine 5 (9, 10)))) := (T.out.next BA.out).next (allocB wa _)
  have kc := fun (w : World) (C : Array Value) (n c : Nat) => Lib.run_convert_bytes_const (P := Tryd.prog) w 25 5 C n c Tryd.underlying25 Tryd.underlying5
  clear G ga ra G8 G9 V1 V2 V3 P B7 R7 R8 R9 T
  go_wp2_with (first | (go_at_call 13; refine (RBad_any p q false [] wa RA.out).mono ?_; rintro e wa' ⟨rfl, rfl⟩) | (go_at_call 14; refine (RLeft_any p q false [] wa RA.out).mono ?_; rintro e wa' ⟨rfl, rfl⟩))
  refine (pSum_any (some ⟨wa.heap.size, 0, none⟩) 9 9 [49, 50, 51, 52, 53, 54, 55, 56, 57] (wa.alloc (.cells nine 5 (9, 10))) (by_nine wa) (by decide) TA.out).mono ?_
  rw [sum9]
  rintro e wb ⟨rfl, rfl⟩
  go_wp2
  go_ret
  exact ⟨rfl, nextB BA.out (allocB wa _)⟩

end Go.Proofs.YtgjimoihbbogdaaDoor
