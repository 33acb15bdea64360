/- Texts without tables are parsed; the law's own look that it is awake: the texts. The law's own look that it is awake. -/
import Derived.Test.YtobolipjgkabhaaDoorSr
import Derived.Test.YtobolipjgkabhaaDoorGc
namespace Go.Proofs.YtobolipjgkabhaaDoor
open Go.Shelf Go.RowKit
set_option linter.unusedVariables false
set_option linter.unusedSimpArgs false

theorem tc_of {ws : List Wo} (h : ws.all (fun x => !(eqB x.t ⟨#[116, 97, 98, 108, 101]⟩)) = true) : TC ws := by
  intro w p b c k o e
  exfalso
  cases hd : ws.drop k with
  | nil => rw [hd] at e; revert e; decide
  | cons x r =>
    rw [hd] at e
    have e : eqB x.t ⟨#[116, 97, 98, 108, 101]⟩ = true := e
    have m : x ∈ ws := List.mem_of_mem_drop (by rw [hd]; exact List.mem_cons_self)
    have := List.all_eq_true.1 h x m
    rw [e] at this
    cases this
/-- A text that is cut, and has no table. -/
theorem parse_no (s : ByteArray) (w : World) (RW : List Wd) (r : Tr ⊕ (Nat × Nat)) (hs : s.size ≤ 8192) (hx : cutF s 0 = (RW, none)) (hn : (RW.map (wo s)).all (fun x => !(eqB x.t ⟨#[116, 97, 98, 108, 101]⟩)) = true) (hr : parF (RW.map (wo s)) = r) (hT : KT w) (hS : Tab w) :
    Calls Tryd.prog 5 #[.string s] w fun e w' => PrP r w e w' := by
  have := parse_good s w RW hs hx (tc_of hn) hT hS
  rw [show parse s = r from by unfold parse; rw [if_neg (by omega), hx]; exact hr] at this
  exact this
def aw1T : ByteArray := ⟨#[114, 117, 108, 101, 32, 116, 32, 109, 111, 110, 101, 121, 32, 61, 32, 36, 49, 32, 43, 32, 36, 50, 59]⟩
def aw1R : List Wd := [(2, 4, 0, 0), (1, 1, 0, 5), (2, 5, 0, 7), (7, 1, 0, 13), (4, 2, 100, 15), (7, 1, 0, 18), (4, 2, 200, 20), (7, 1, 0, 22), (0, 0, 0, 23)]
theorem aw1C : cutF aw1T 0 = (aw1R, none) := by decide +kernel
def aw1P : Tr := .nd ⟨#[43]⟩ ⟨#[]⟩ 0 0 18 [lit1 3 100 15, lit1 3 200 20]
def aw1U : Tr := .nd ⟨#[114, 117, 108, 101]⟩ ⟨#[116]⟩ 3 0 0 [aw1P]
def aw1X : Tr := .nd ⟨#[115, 116, 97, 116, 117, 116, 101]⟩ ⟨#[]⟩ 0 0 0 [aw1U]
theorem aw1N : (aw1R.map (wo aw1T)).all (fun x => !(eqB x.t ⟨#[116, 97, 98, 108, 101]⟩)) = true := by decide +kernel
theorem aw1W : parF (aw1R.map (wo aw1T)) = .inl aw1X := by kernel_rfl
def aw2T : ByteArray := ⟨#[114, 117, 108, 101]⟩
def aw2R : List Wd := [(2, 4, 0, 0), (0, 0, 0, 4)]
theorem aw2C : cutF aw2T 0 = (aw2R, none) := by decide +kernel
theorem aw2N : (aw2R.map (wo aw2T)).all (fun x => !(eqB x.t ⟨#[116, 97, 98, 108, 101]⟩)) = true := by decide +kernel
theorem aw2W : parF (aw2R.map (wo aw2T)) = .inr (4, 7) := by kernel_rfl
theorem dd1 {u : Nat} (h : u < 10) : Lib.decDigits u = [UInt8.ofNat (48 + u)] := by
  unfold Lib.decDigits
  rw [dif_pos h]
theorem dd2 {u : Nat} (h : ¬ u < 10) : Lib.decDigits u = Lib.decDigits (u / 10) ++ [UInt8.ofNat (48 + u % 10)] := by
  rw [Lib.decDigits]
  rw [dif_neg h]
theorem dd100 : Lib.decDigits 100 = [49, 48, 48] := by
  rw [dd2 (by decide), dd2 (by decide), dd1 (by decide)]
  decide
theorem lit100 : litS 3 100 = [36, 49, 46, 48, 48] := by
  unfold litS decU
  rw [if_neg (by decide), if_neg (by decide), if_pos rfl, show 100 / 100 = 1 from rfl, show 100 + 100 % 100 = 100 from rfl, dd100, dd1 (by decide)]
  decide
theorem lit200 : litS 3 200 = [36, 50, 46, 48, 48] := by
  unfold litS decU
  rw [if_neg (by decide), if_neg (by decide), if_pos rfl, show 200 / 100 = 2 from rfl, show 100 + 200 % 100 = 100 from rfl, dd100, dd1 (by decide)]
  decide
theorem shw_nd {op nm : ByteArray} {kd : Nat} {n : Int} {a : Nat} {ks : List Tr} (h1 : eqB op ⟨#[115, 116, 97, 116, 117, 116, 101]⟩ = false) (h2 : eqB op ⟨#[108, 105, 116]⟩ = false) (h3 : okP (patF op ks.length) kd ks.length = true) : shw (.nd op nm kd n a ks) = fillS op nm kd (patF op ks.length).data.toList (shwK ks) := by
  rw [shw, if_neg (by rw [h1]; decide), if_neg (by rw [h2]; decide), if_pos h3]
theorem shw_lit (nm : ByteArray) (kd n a : Nat) : shw (.nd ⟨#[108, 105, 116]⟩ nm kd (n : Nat) a []) = litS kd n := litS_of
theorem aw1S : shw aw1X = [114, 117, 108, 101, 32, 116, 32, 109, 111, 110, 101, 121, 32, 61, 32, 40, 36, 49, 46, 48, 48, 32, 43, 32, 36, 50, 46, 48, 48, 41, 59, 10] := by
  have p : shw aw1P = [40, 36, 49, 46, 48, 48, 32, 43, 32, 36, 50, 46, 48, 48, 41] := by
    unfold aw1P lit1
    rw [shw_nd (by decide) (by decide) (by decide)]
    simp only [shwK]
    rw [shw_lit, shw_lit, lit100, lit200]
    rfl
  have u : shw aw1U = [114, 117, 108, 101, 32, 116, 32, 109, 111, 110, 101, 121, 32, 61, 32, 40, 36, 49, 46, 48, 48, 32, 43, 32, 36, 50, 46, 48, 48, 41, 59] := by
    unfold aw1U
    rw [shw_nd (by decide) (by decide) (by decide)]
    simp only [shwK]
    rw [p]
    rfl
  unfold aw1X
  rw [shw, if_pos (by decide)]
  simp only [shwL]
  rw [u]
  rfl
theorem aw1G (B : Nat) (hB : 1 < B) : SC B aw1X := by
  refine show_stat B _ _ _ _ _ hB (by decide) fun t ht => ?_
  obtain rfl := List.mem_singleton.1 ht
  refine show_nd B _ _ _ _ _ _ hB (by decide) (by decide) (by decide) (by decide) (by decide) fun t ht => ?_
  obtain rfl := List.mem_singleton.1 ht
  refine show_nd B _ _ _ _ _ _ hB (by decide) (by decide) (by decide) (by decide) (by decide) fun t ht => ?_
  rcases List.mem_cons.1 ht with rfl | ht
  · exact show_lit B _ 3 100 15 (by decide)
  · obtain rfl := List.mem_singleton.1 ht
    exact show_lit B _ 3 200 20 (by decide)
theorem aw1K : Nw aw1X :=
  .nd _ _ _ _ _ _ (by decide) fun t ht => by
    obtain rfl := List.mem_singleton.1 ht
    exact .nd _ _ _ _ _ _ (by decide) fun t ht => by
      obtain rfl := List.mem_singleton.1 ht
      exact .nd _ _ _ _ _ _ (by decide) fun t ht => by
        rcases List.mem_cons.1 ht with rfl | ht
        · exact .nd _ _ _ _ _ _ (by decide) (fun t ht => by simp at ht)
        · obtain rfl := List.mem_singleton.1 ht
          exact .nd _ _ _ _ _ _ (by decide) (fun t ht => by simp at ht)
theorem aw1Y : smT aw1X aw1X = true := by decide +kernel
theorem aw1Z : smT aw1X Tr.zero = false := by decide +kernel
end Go.Proofs.YtobolipjgkabhaaDoor

namespace Go.Proofs.YtobolipjgkabhaaDoor
open Go.Shelf Go.RowKit
set_option linter.unusedVariables false
set_option linter.unusedSimpArgs false

/-- The tables that the program reads. -/
structure Tbs (w : World) : Prop where
  sg : Tab w
  kt : KT w
  pw : Lib.TabIs Tryd.prog w "internal/strconv.uint64pow10" .u64 Lib.pow10Tab
theorem Tbs.next {w w' : World} (h : Tbs w) (hb : Below w.heap.size w w') : Tbs w' := ⟨h.sg.next hb, h.kt.next hb, Lib.tabBelow_of_tabIs h.pw w' hb⟩
theorem PrP.inl {t : Tr} {w w' : World} {e : Ending} (h : PrP (.inl t) w e w') : ∃ (sa : Option Addr) (sm sc : Nat), e = .returned (.tuple #[.agg #[.string t.op, .string t.name, .int .i64 (t.kind : Nat), .int .i64 t.n, .int .i64 (t.pl : Nat), .slice sa sm sc], .int .i64 0, .int .i64 0]) ∧ Nd w' (fun g => w.heap.size ≤ g) (.slice sa sm sc) t.kids ∧ Below w.heap.size w w' := by
  obtain ⟨b, v, he, sl, hv, nd⟩ := h
  subst hv
  obtain ⟨sa, sm, sc, rfl⟩ := nd.sl
  exact ⟨sa, sm, sc, he, nd, b⟩
theorem PrP.inr {a n : Nat} {w w' : World} {e : Ending} (h : PrP (.inr (a, n)) w e w') : e = .returned (.tuple #[.agg #[.string ⟨#[]⟩, .string ⟨#[]⟩, .int .i64 0, .int .i64 0, .int .i64 0, .slice none 0 0], .int .i64 (a : Nat), .int .i64 (n : Nat)]) ∧ Below w.heap.size w w' := ⟨h.2, h.1⟩
set_option maxRecDepth 100000 in
set_option maxHeartbeats 4000000 in
theorem awake_any (w : World) (hT : Tbs w) : Calls Tryd.prog 4 #[] w fun e w' => e = .returned (.bool true) ∧ Below w.heap.size w w' := by
  have TH := hid hT
  have KP := hid (show Calls Tryd.prog 5 #[.string ⟨#[114, 117, 108, 101, 32, 116, 32, 109, 111, 110, 101, 121, 32, 61, 32, 36, 49, 32, 43, 32, 36, 50, 59]⟩] w (fun e w' => ∃ (sa : Option Addr) (sm sc : Nat), e = .returned (.tuple #[.agg #[.string ⟨#[115, 116, 97, 116, 117, 116, 101]⟩, .string ⟨#[]⟩, .int .i64 0, .int .i64 0, .int .i64 0, .slice sa sm sc], .int .i64 0, .int .i64 0]) ∧ Nd w' (fun g => w.heap.size ≤ g) (.slice sa sm sc) aw1X.kids ∧ Below w.heap.size w w') from (parse_no aw1T w aw1R _ (by decide) aw1C aw1N aw1W hT.kt hT.sg).mono fun e w' h => h.inl)
  clear hT
  go_enter Tryd.func4, Tryd.ntmps4
  go_upto_region 2 with (go_at_call 5; with_reducible refine Calls.mono KP.out ?_; rintro e w1 ⟨sa, sm, sc, rfl, n1, b1⟩; have B1 := hid b1; have N1 := hid n1; clear b1 n1)
  have BL := hid (show Below w1.heap.size w1 (w1.alloc (.cells #[.string ⟨#[115, 116, 97, 116, 117, 116, 101]⟩, .string ⟨#[]⟩, .int .i64 0, .int .i64 0, .int .i64 0, .slice sa sm sc] 26)) from (Below.refl _ _).alloc (Nat.le_refl _) _)
  have X1 := hid (B6.new w1 26 (.string ⟨#[115, 116, 97, 116, 117, 116, 101]⟩) (.string ⟨#[]⟩) (.int .i64 0) (.int .i64 0) (.int .i64 0) (.slice sa sm sc))
  have B2 := hid (nextB B1.out BL.out)
  have N2 := hid (N1.out.next BL.out)
  have T2 := hid (TH.out.next B2.out)
  clear N1 B1 TH KP BL
  generalize World.alloc w1 _ = w2 at *
  generalize w1.heap.size = g1 at *
  have KP2 := hid (show Calls Tryd.prog 5 #[.string ⟨#[114, 117, 108, 101]⟩] w2 (fun e w' => e = .returned (.tuple #[.agg #[.string ⟨#[]⟩, .string ⟨#[]⟩, .int .i64 0, .int .i64 0, .int .i64 0, .slice none 0 0], .int .i64 4, .int .i64 7]) ∧ Below w2.heap.size w2 w') from (parse_no aw2T w2 aw2R _ (by decide) aw2C aw2N aw2W T2.out.kt T2.out.sg).mono fun e w' h => h.inr)
  go_upto_region 3 with (go_at_call 5; with_reducible refine Calls.mono KP2.out ?_; rintro e w3 ⟨rfl, b3⟩; have B3 := hid b3; clear b3)
  have BL := hid (show Below w3.heap.size w3 (w3.alloc (.cells #[.string ⟨#[]⟩, .string ⟨#[]⟩, .int .i64 0, .int .i64 0, .int .i64 0, .slice none 0 0] 26)) from (Below.refl _ _).alloc (Nat.le_refl _) _)
  have B4' := hid (nextB B3.out BL.out)
  have B4 := hid (nextB B2.out B4'.out)
  have X4 := hid (X1.out.next B4'.out)
  have N4 := hid (N2.out.next B4'.out)
  have T4 := hid (T2.out.next B4'.out)
  clear B3 BL B4' B2 X1 N2 T2 KP2
  generalize World.alloc w3 _ = w4 at *
  obtain ⟨x0, x1, x2, x3, x4, x5, xz⟩ := X4.out
  have SK := hid (show Calls Tryd.prog 6 #[.agg #[.string ⟨#[115, 116, 97, 116, 117, 116, 101]⟩, .string ⟨#[]⟩, .int .i64 0, .int .i64 0, .int .i64 0, .slice sa sm sc]] w4 (fun e w' => e = .returned (.string ⟨#[114, 117, 108, 101, 32, 116, 32, 109, 111, 110, 101, 121, 32, 61, 32, 40, 36, 49, 46, 48, 48, 32, 43, 32, 36, 50, 46, 48, 48, 41, 59, 10]⟩) ∧ Below w4.heap.size w4 w') from by
    have := Show_any aw1X w4 sa sm sc _ N4.out (fun B h => aw1G B (Nat.lt_of_lt_of_le T4.out.kt.1 h)) T4.out.pw T4.out.kt (by rw [aw1S]; decide) (by rw [aw1S]; decide)
    rw [aw1S] at this
    exact this)
  have M1 := hid (show ∀ W, Below w4.heap.size w4 W → Calls Tryd.prog 7 #[.agg #[.string ⟨#[115, 116, 97, 116, 117, 116, 101]⟩, .string ⟨#[]⟩, .int .i64 0, .int .i64 0, .int .i64 0, .slice sa sm sc], .agg #[.string ⟨#[115, 116, 97, 116, 117, 116, 101]⟩, .string ⟨#[]⟩, .int .i64 0, .int .i64 0, .int .i64 0, .slice sa sm sc]] W (fun e w' => e = .returned (.bool true) ∧ Below W.heap.size W w') from fun W hW => by
    have := same_any aw1K aw1X W _ sa sa sm sc sm sc (N4.out.any hW) (N4.out.any hW)
    rw [aw1Y] at this
    exact this)
  have M2 := hid (show ∀ W, Below w4.heap.size w4 W → Calls Tryd.prog 7 #[.agg #[.string ⟨#[115, 116, 97, 116, 117, 116, 101]⟩, .string ⟨#[]⟩, .int .i64 0, .int .i64 0, .int .i64 0, .slice sa sm sc], .agg #[.string ⟨#[]⟩, .string ⟨#[]⟩, .int .i64 0, .int .i64 0, .int .i64 0, .slice none 0 0]] W (fun e w' => e = .returned (.bool false) ∧ Below W.heap.size W w') from fun W hW => by
    have := same_any aw1K Tr.zero W _ sa none sm sc 0 0 (N4.out.any hW) .nil
    rw [aw1Z] at this
    exact this)
  go_wp2_with (first
    | (go_at_call 6; with_reducible refine Calls.mono SK.out ?_; rintro e w5 ⟨rfl, b5⟩; obtain ⟨y0, y1, y2, y3, y4, y5, yz⟩ := X4.out.next b5; have D5 := hid b5; clear b5 SK)
    | (go_at_call 7; with_reducible refine Calls.mono (M1.out _ D5.out) ?_; rintro e w6 ⟨rfl, b6⟩; have D6 := hid (nextB D5.out b6); obtain ⟨z0, z1, z2, z3, z4, z5, zz⟩ := X4.out.next D6.out; clear b6 D5)
    | (go_at_call 7; with_reducible refine Calls.mono (M2.out _ D6.out) ?_; rintro e w7 ⟨rfl, b7⟩; have D7 := hid (nextB D6.out b7); clear b7))
  go_ret
  exact ⟨rfl, nextB B4.out D7.out⟩
end Go.Proofs.YtobolipjgkabhaaDoor

