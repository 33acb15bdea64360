/- The law's own look that it is awake. -/
import Derived.Test.YtobolipjgkabhaaDoorQg
namespace Go.Proofs.YtobolipjgkabhaaDoor
open Go.Shelf Go.RowKit
set_option linter.unusedVariables false
set_option linter.unusedSimpArgs false

/-- The tables that the program reads. -/
structure Tbs (w : World) : Prop where
  sg : Tab w
  kt : KT w
  pw : Lib.TabIs Tryd.prog w "internal/strconv.uint64pow10" .u64 Lib.pow10Tab
theorem Tbs.next {w w' : World} (h : Tbs w) (hb : Below w.heap.size w w') : Tbs w' := ⟨h.sg.next hb, h.kt.next hb, Lib.tabBelow_of_tabIs h.pw w' hb⟩
theorem PrP.inl {t : Tr} {w w' : World} {e : Ending} (h : PrP (.inl t) w e w') : ∃ (sa : Option Addr) (sm sc : Nat), e = .returned (.tuple #[.agg #[.string t.op, .string t.name, .int .i64 (t.kind : Nat), .int .i64 t.n, .int .i64 (t.pl : Nat), .slice sa sm sc], .int .i64 0, .int .i64 0]) ∧ Nd w' (fun g => w.heap.size ≤ g) (.slice sa sm sc) t.kids ∧ Below w.heap.size w w' := by
  obtain ⟨b, v, he, sl, hv, nd⟩ := h
  subst hv
  obtain ⟨sa, sm, sc, rfl⟩ := nd.sl
  exact ⟨sa, sm, sc, he, nd, b⟩
theorem PrP.inr {a n : Nat} {w w' : World} {e : Ending} (h : PrP (.inr (a, n)) w e w') : e = .returned (.tuple #[.agg #[.string ⟨#[]⟩, .string ⟨#[]⟩, .int .i64 0, .int .i64 0, .int .i64 0, .slice none 0 0], .int .i64 (a : Nat), .int .i64 (n : Nat)]) ∧ Below w.heap.size w w' := ⟨h.2, h.1⟩
set_option maxRecDepth 100000 in
set_option maxHeartbeats 4000000 in
theorem awake_any (w : World) (hT : Tbs w) : Calls Tryd.prog 4 #[] w fun e w' => e = .returned (.bool true) ∧ Below w.heap.size w w' := by
  have TH := hid hT
  have KP := hid (show Calls Tryd.prog 5 #[.string ⟨#[114, 117, 108, 101, 32, 116, 32, 109, 111, 110, 101, 121, 32, 61, 32, 36, 49, 32, 43, 32, 36, 50, 59]⟩] w (fun e w' => ∃ (sa : Option Addr) (sm sc : Nat), e = .returned (.tuple #[.agg #[.string ⟨#[115, 116, 97, 116, 117, 116, 101]⟩, .string ⟨#[]⟩, .int .i64 0, .int .i64 0, .int .i64 0, .slice sa sm sc], .int .i64 0, .int .i64 0]) ∧ Nd w' (fun g => w.heap.size ≤ g) (.slice sa sm sc) aw1X.kids ∧ Below w.heap.size w w') from (parse_no aw1T w aw1R _ (by decide) aw1C aw1N aw1W hT.kt hT.sg).mono fun e w' h => h.inl)
  clear hT
  go_enter Tryd.func4, Tryd.ntmps4
  go_upto_region 2 with (go_at_call 5; with_reducible refine Calls.mono KP.out ?_; rintro e w1 ⟨sa, sm, sc, rfl, n1, b1⟩; have B1 := hid b1; have N1 := hid n1; clear b1 n1)
  have BL := hid (show Below w1.heap.size w1 (w1.alloc (.cells #[.string ⟨#[115, 116, 97, 116, 117, 116, 101]⟩, .string ⟨#[]⟩, .int .i64 0, .int .i64 0, .int .i64 0, .slice sa sm sc] 26)) from (Below.refl _ _).alloc (Nat.le_refl _) _)
  have X1 := hid (B6.new w1 26 (.string ⟨#[115, 116, 97, 116, 117, 116, 101]⟩) (.string ⟨#[]⟩) (.int .i64 0) (.int .i64 0) (.int .i64 0) (.slice sa sm sc))
  have B2 := hid (nextB B1.out BL.out)
  have N2 := hid (N1.out.next BL.out)
  have T2 := hid (TH.out.next B2.out)
  clear N1 B1 TH KP BL
  generalize World.alloc w1 _ = w2 at *
  generalize w1.heap.size = g1 at *
  have KP2 := hid (show Calls Tryd.prog 5 #[.string ⟨#[114, 117, 108, 101]⟩] w2 (fun e w' => e = .returned (.tuple #[.agg #[.string ⟨#[]⟩, .string ⟨#[]⟩, .int .i64 0, .int .i64 0, .int .i64 0, .slice none 0 0], .int .i64 4, .int .i64 7]) ∧ Below w2.heap.size w2 w') from (parse_no aw2T w2 aw2R _ (by decide) aw2C aw2N aw2W T2.out.kt T2.out.sg).mono fun e w' h => h.inr)
  go_upto_region 3 with (go_at_call 5; with_reducible refine Calls.mono KP2.out ?_; rintro e w3 ⟨rfl, b3⟩; have B3 := hid b3; clear b3)
  have BL := hid (show Below w3.heap.size w3 (w3.alloc (.cells #[.string ⟨#[]⟩, .string ⟨#[]⟩, .int .i64 0, .int .i64 0, .int .i64 0, .slice none 0 0] 26)) from (Below.refl _ _).alloc (Nat.le_refl _) _)
  have B4' := hid (nextB B3.out BL.out)
  have B4 := hid (nextB B2.out B4'.out)
  have X4 := hid (X1.out.next B4'.out)
  have N4 := hid (N2.out.next B4'.out)
  have T4 := hid (T2.out.next B4'.out)
  clear B3 BL B4' B2 X1 N2 T2 KP2
  generalize World.alloc w3 _ = w4 at *
  obtain ⟨x0, x1, x2, x3, x4, x5, xz⟩ := X4.out
  have SK := hid (show Calls Tryd.prog 6 #[.agg #[.string ⟨#[115, 116, 97, 116, 117, 116, 101]⟩, .string ⟨#[]⟩, .int .i64 0, .int .i64 0, .int .i64 0, .slice sa sm sc]] w4 (fun e w' => e = .returned (.string ⟨#[114, 117, 108, 101, 32, 116, 32, 109, 111, 110, 101, 121, 32, 61, 32, 40, 36, 49, 46, 48, 48, 32, 43, 32, 36, 50, 46, 48, 48, 41, 59, 10]⟩) ∧ Below w4.heap.size w4 w') from by
    have := Show_any aw1X w4 sa sm sc _ N4.out (fun B h => aw1G B (Nat.lt_of_lt_of_le T4.out.kt.1 h)) T4.out.pw T4.out.kt (by rw [aw1S]; decide) (by rw [aw1S]; decide)
    rw [aw1S] at this
    exact this)
  have M1 := hid (show ∀ W, Below w4.heap.size w4 W → Calls Tryd.prog 7 #[.agg #[.string ⟨#[115, 116, 97, 116, 117, 116, 101]⟩, .string ⟨#[]⟩, .int .i64 0, .int .i64 0, .int .i64 0, .slice sa sm sc], .agg #[.string ⟨#[115, 116, 97, 116, 117, 116, 101]⟩, .string ⟨#[]⟩, .int .i64 0, .int .i64 0, .int .i64 0, .slice sa sm sc]] W (fun e w' => e = .returned (.bool true) ∧ Below W.heap.size W w') from fun W hW => by
    have := same_any aw1K aw1X W _ sa sa sm sc sm sc (N4.out.any hW) (N4.out.any hW)
    rw [aw1Y] at this
    exact this)
  have M2 := hid (show ∀ W, Below w4.heap.size w4 W → Calls Tryd.prog 7 #[.agg #[.string ⟨#[115, 116, 97, 116, 117, 116, 101]⟩, .string ⟨#[]⟩, .int .i64 0, .int .i64 0, .int .i64 0, .slice sa sm sc], .agg #[.string ⟨#[]⟩, .string ⟨#[]⟩, .int .i64 0, .int .i64 0, .int .i64 0, .slice none 0 0]] W (fun e w' => e = .returned (.bool false) ∧ Below W.heap.size W w') from fun W hW => by
    have := same_any aw1K Tr.zero W _ sa none sm sc 0 0 (N4.out.any hW) .nil
    rw [aw1Z] at this
    exact this)
  go_wp2_with (first
    | (go_at_call 6; with_reducible refine Calls.mono SK.out ?_; rintro e w5 ⟨rfl, b5⟩; obtain ⟨y0, y1, y2, y3, y4, y5, yz⟩ := X4.out.next b5; have D5 := hid b5; clear b5 SK)
    | (go_at_call 7; with_reducible refine Calls.mono (M1.out _ D5.out) ?_; rintro e w6 ⟨rfl, b6⟩; have D6 := hid (nextB D5.out b6); obtain ⟨z0, z1, z2, z3, z4, z5, zz⟩ := X4.out.next D6.out; clear b6 D5)
    | (go_at_call 7; with_reducible refine Calls.mono (M2.out _ D6.out) ?_; rintro e w7 ⟨rfl, b7⟩; have D7 := hid (nextB D6.out b7); clear b7))
  go_ret
  exact ⟨rfl, nextB B4.out D7.out⟩
end Go.Proofs.YtobolipjgkabhaaDoor
