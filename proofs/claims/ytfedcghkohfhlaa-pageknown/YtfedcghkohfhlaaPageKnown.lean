/- Proved: the law PageKnown of package publicanlaw6 returns true at every start, whatever memory it starts in, on every schedule; no condition. -/
import Derived.Test.YtfedcghkohfhlaaSh
namespace Go.Proofs.Ytfedcghkohfhlaa.pageKnown
open Go.ChangeShapes Go.WideShapes Go.ChangeAt Go.RowKit
set_option linter.unusedVariables false
set_option linter.unusedSimpArgs false

theorem by2 (w : World) : By (w.alloc (.cells #[.int .u8 66, .int .u8 0] 5)) (some ⟨w.heap.size, 0, none⟩) 2 2 [66, 0] := by
  refine ⟨rfl, Nat.le_refl _, by decide, fun e => by simp at e, ⟨w.heap.size, 0, fun _ => rfl, fun i hi => ?_⟩, ?_⟩
  · rw [Nat.zero_add]
    match i, hi with
    | 0, _ => simp
    | 1, _ => simp
  · intro x hx
    simp at hx
    omega
def pgB : Pg := ⟨false, [⟨#[97]⟩], [], [1, 0]⟩
def pgC : Pg := ⟨true, [⟨#[97]⟩], [⟨#[]⟩], []⟩
def pgD : Pg := ⟨true, [⟨#[]⟩], [⟨#[]⟩], []⟩
theorem pgB_fit : Fit pgB := fitS (by decide +kernel) (fun k hk => by simp [pgB] at hk; omega) (fun h => by simp [pgB] at h)
theorem pgC_fit : Fit pgC := fitS (by decide +kernel) (fun k hk => by simp [pgC] at hk) (fun _ => rfl)
theorem pgD_fit : Fit pgD := fitS (by decide +kernel) (fun k hk => by simp [pgD] at hk) (fun _ => rfl)
theorem pgB_good : goodB pgB = false := by kernel_rfl
theorem pgD_good : goodB pgD = false := by kernel_rfl
theorem dcd0 : dcd [] = none := by kernel_rfl
theorem dcd1 : dcd [66, 0] = none := by kernel_rfl
theorem goB (v : Value) (W : World) (h : Pv W v pgB) : Calls Try.prog 12 #[v] W fun e w' => e = .returned (.bool false) ∧ Below W.heap.size W w' := by
  have := Good_any v pgB W h pgB_fit.bd
  rwa [pgB_good] at this
theorem goD (v : Value) (W : World) (h : Pv W v pgD) : Calls Try.prog 12 #[v] W fun e w' => e = .returned (.bool false) ∧ Below W.heap.size W w' := by
  have := Good_any v pgD W h pgD_fit.bd
  rwa [pgD_good] at this
theorem pvB (w5 : World) : Below w5.heap.size w5 (((w5.alloc (.cells #[.string ⟨#[97]⟩] 9)).alloc (.cells #[.int .u64 1, .int .u64 0] 31)).alloc (.cells #[.bool false, .slice (some ⟨w5.heap.size, 0, none⟩) 1 1, .slice none 0 0, .slice (some ⟨w5.heap.size + 1, 0, none⟩) 2 2] 26)) ∧ Pv (((w5.alloc (.cells #[.string ⟨#[97]⟩] 9)).alloc (.cells #[.int .u64 1, .int .u64 0] 31)).alloc (.cells #[.bool false, .slice (some ⟨w5.heap.size, 0, none⟩) 1 1, .slice none 0 0, .slice (some ⟨w5.heap.size + 1, 0, none⟩) 2 2] 26)) (.agg #[.bool false, .slice (some ⟨w5.heap.size, 0, none⟩) 1 1, .slice none 0 0, .slice (some ⟨w5.heap.size + 1, 0, none⟩) 2 2]) pgB ∧ B4 (((w5.alloc (.cells #[.string ⟨#[97]⟩] 9)).alloc (.cells #[.int .u64 1, .int .u64 0] 31)).alloc (.cells #[.bool false, .slice (some ⟨w5.heap.size, 0, none⟩) 1 1, .slice none 0 0, .slice (some ⟨w5.heap.size + 1, 0, none⟩) 2 2] 26)) (w5.heap.size + 1 + 1) (.bool false) (.slice (some ⟨w5.heap.size, 0, none⟩) 1 1) (.slice none 0 0) (.slice (some ⟨w5.heap.size + 1, 0, none⟩) 2 2) := by
  have s1 := ((sl_new w5 (.string ⟨#[97]⟩) 9 rfl).below (allocB _ (.cells #[.int .u64 1, .int .u64 0] 31))).below (allocB _ (.cells #[.bool false, .slice (some ⟨w5.heap.size, 0, none⟩) 1 1, .slice none 0 0, .slice (some ⟨w5.heap.size + 1, 0, none⟩) 2 2] 26))
  have o2 := ow_new (w5.alloc (.cells #[.string ⟨#[97]⟩] 9)) 31 [.int .u64 1, .int .u64 0] (fun u hu => by simp at hu; rcases hu with rfl | rfl <;> rfl) (by decide)
  obtain ⟨a, c, e, s2, _⟩ := o2.sl
  injection e with e1 e2 e3
  subst e1 e3
  rw [World.size_alloc] at s2
  have q := B4.new ((w5.alloc (.cells #[.string ⟨#[97]⟩] 9)).alloc (.cells #[.int .u64 1, .int .u64 0] 31)) (.bool false) (.slice (some ⟨w5.heap.size, 0, none⟩) 1 1) (.slice none 0 0) (.slice (some ⟨w5.heap.size + 1, 0, none⟩) 2 2) 26
  rw [World.size_alloc, World.size_alloc] at q
  exact ⟨nextB (nextB (allocB _ _) (allocB _ _)) (allocB _ _), Pv.mk' s1 (Sl.empty _) (s2.below (allocB _ _)) (fun k hk => by simp at hk; omega), q⟩
theorem pvC (w : World) : Pv ((w.alloc (.cells #[.string ⟨#[97]⟩] 9)).alloc (.cells #[.string ⟨#[]⟩] 9)) (.agg #[.bool true, .slice (some ⟨w.heap.size, 0, none⟩) 1 1, .slice (some ⟨w.heap.size + 1, 0, none⟩) 1 1, .slice none 0 0]) pgC := by
  have s1 := (sl_new w (.string ⟨#[97]⟩) 9 rfl).below (allocB _ (.cells #[.string ⟨#[]⟩] 9))
  have s2 := sl_new (w.alloc (.cells #[.string ⟨#[97]⟩] 9)) (.string ⟨#[]⟩) 9 rfl
  rw [World.size_alloc] at s2
  exact Pv.mk' s1 s2 (Sl.empty _) (fun k hk => by simp at hk)
theorem pvD1 (w : World) : Pv ((w.alloc (.cells #[.string ⟨#[]⟩] 9)).alloc (.cells #[.string ⟨#[]⟩] 9)) (.agg #[.bool true, .slice (some ⟨w.heap.size, 0, none⟩) 1 1, .slice (some ⟨w.heap.size + 1, 0, none⟩) 1 1, .slice none 0 0]) pgD := by
  have s1 := (sl_new w (.string ⟨#[]⟩) 9 rfl).below (allocB _ (.cells #[.string ⟨#[]⟩] 9))
  have s2 := sl_new (w.alloc (.cells #[.string ⟨#[]⟩] 9)) (.string ⟨#[]⟩) 9 rfl
  rw [World.size_alloc] at s2
  exact Pv.mk' s1 s2 (Sl.empty _) (fun k hk => by simp at hk)
theorem pvD2 (w : World) : Pv ((w.alloc (.cells #[.string ⟨#[]⟩] 9)).alloc (.cells #[.string ⟨#[]⟩] 9)) (.agg #[.bool true, .slice (some ⟨w.heap.size + 1, 0, none⟩) 1 1, .slice (some ⟨w.heap.size, 0, none⟩) 1 1, .slice none 0 0]) pgD := by
  have s1 := (sl_new w (.string ⟨#[]⟩) 9 rfl).below (allocB _ (.cells #[.string ⟨#[]⟩] 9))
  have s2 := sl_new (w.alloc (.cells #[.string ⟨#[]⟩] 9)) (.string ⟨#[]⟩) 9 rfl
  rw [World.size_alloc] at s2
  exact Pv.mk' s2 s1 (Sl.empty _) (fun k hk => by simp at hk)

set_option maxRecDepth 100000 in
set_option maxHeartbeats 4000000 in
theorem walk (w : World) : Calls Try.prog 3 #[] w fun e w' => e = .returned (.bool true) ∧ Below w.heap.size w w' := by
  have KA : Hid _ := awake_any w
  go_enter Try.func3, Try.ntmps3
  go_wp2_with fail
  refine Calls.mono KA.out ?_
  rintro e w1 ⟨rfl, b1⟩
  have B1 : Hid _ := b1
  clear b1 KA
  go_wp2_with fail
  refine Calls.mono (Decode_any none 0 0 [] w1 (By.empty w1) (by decide)) ?_
  rintro e w2 D
  obtain rfl := D.no dcd0
  have B2 : Hid (Below w.heap.size w w2) := nextB B1.out D.bel
  have B3 : Hid _ := nextB B2.out (allocB w2 (.cells #[.bool false, (.slice none 0 0), (.slice none 0 0), (.slice none 0 0)] 26))
  clear D
  go_upto_region 4 with fail
  generalize w2.alloc (.cells #[.bool false, (.slice none 0 0), (.slice none 0 0), (.slice none 0 0)] 26) = w3 at *
  go_wp2_with fail
  refine Calls.mono (Decode_any (some ⟨w3.heap.size, 0, none⟩) 2 2 [66, 0] _ (by2 w3) (by decide)) ?_
  rintro e w4 D
  obtain rfl := D.no dcd1
  have B5 : Hid (Below w.heap.size w (w4.alloc (.cells #[.bool false, (.slice none 0 0), (.slice none 0 0), (.slice none 0 0)] 26))) := nextB (nextB (nextB B3.out (allocB _ _)) D.bel) (allocB _ _)
  clear D
  go_upto_region 5 with fail
  generalize w4.alloc (.cells #[.bool false, (.slice none 0 0), (.slice none 0 0), (.slice none 0 0)] 26) = w5 at *
  have C6 : Hid _ := pvB w5
  go_upto_region 6 with fail
  generalize (((w5.alloc (.cells #[.string ⟨#[97]⟩] 9)).alloc (.cells #[.int .u64 1, .int .u64 0] 31)).alloc (.cells #[.bool false, .slice (some ⟨w5.heap.size, 0, none⟩) 1 1, .slice none 0 0, .slice (some ⟨w5.heap.size + 1, 0, none⟩) 2 2] 26)) = w6 at *
  have KS : Hid _ := Split_small _ pgC _ (pvC w6) pgC_fit.bd (Or.inl (by decide))
  go_wp2_with fail
  refine Calls.mono KS.out ?_
  rintro e w8 ⟨v8, u8, rfl, Px', Py', _, b8⟩
  obtain ⟨ax, mx, cx, dx, nx, fx, gx, ox, hx, rfl, sx, _, _⟩ := Px'.ex
  obtain ⟨ay, my, cy, dy, ny, fy, gy, oy, hy, rfl, sy, _, _⟩ := Py'.ex
  obtain rfl : mx = 1 := sx.len.symm
  obtain rfl : my = 0 := sy.len.symm
  have AX : Hid _ := And.intro (nextB (allocB w8 (.cells #[.bool pgC.leaf, .slice ax 1 cx, .slice dx nx fx, .slice gx ox hx] 26)) (allocB _ (.cells #[.bool zeroP.leaf, .slice ay 0 cy, .slice dy ny fy, .slice gy oy hy] 26))) (And.intro ((B4.new w8 (.bool pgC.leaf) (.slice ax 1 cx) (.slice dx nx fx) (.slice gx ox hx) 26).below (allocB _ (.cells #[.bool zeroP.leaf, .slice ay 0 cy, .slice dy ny fy, .slice gy oy hy] 26))) (B4.new (w8.alloc (.cells #[.bool pgC.leaf, .slice ax 1 cx, .slice dx nx fx, .slice gx ox hx] 26)) (.bool zeroP.leaf) (.slice ay 0 cy) (.slice dy ny fy) (.slice gy oy hy) 26))
  rw [World.size_alloc] at AX
  have E8 : Hid (Below w6.heap.size w6 w8) := nextB (nextB (allocB _ _) (allocB _ _)) b8
  clear Px' Py' sx sy b8 KS
  go_upto_region 7 with fail
  have WX : Hid _ := nextB E8.out AX.out.1
  have BX : Hid _ := AX.out.2.1
  have BY : Hid _ := AX.out.2.2
  clear AX
  generalize ((w8.alloc (.cells #[.bool pgC.leaf, .slice ax 1 cx, .slice dx nx fx, .slice gx ox hx] 26)).alloc (.cells #[.bool zeroP.leaf, .slice ay 0 cy, .slice dy ny fy, .slice gy oy hy] 26)) = w9 at *
  have SS : Hid (∀ W, Below w9.heap.size w9 W → W.cell? ⟨w5.heap.size + 1 + 1, 0, none⟩ = some (.bool false) ∧ W.cell? ⟨w5.heap.size + 1 + 1, 1, none⟩ = some (.slice (some ⟨w5.heap.size, 0, none⟩) 1 1) ∧ W.cell? ⟨w5.heap.size + 1 + 1, 2, none⟩ = some (.slice none 0 0) ∧ W.cell? ⟨w5.heap.size + 1 + 1, 3, none⟩ = some (.slice (some ⟨w5.heap.size + 1, 0, none⟩) 2 2) ∧ W.cell? ⟨w8.heap.size, 1, none⟩ = some (.slice ax 1 cx) ∧ W.cell? ⟨w8.heap.size + 1, 1, none⟩ = some (.slice ay 0 cy)) := fun W b => by
    have q := (C6.out.2.2.below WX.out).below b
    exact ⟨q.a0, q.a1, q.a2, q.a3, (BX.out.below b).a1, (BY.out.below b).a1⟩
  have K1 : Hid _ := fun (W : World) (b : Below w9.heap.size w9 W) => goB _ W ((C6.out.2.1.below WX.out).below b)
  have UW : Hid (Below w.heap.size w w9) := nextB (nextB B5.out C6.out.1) WX.out
  obtain ⟨z0, z1, z2, z3, z4, z5⟩ := SS.out w9 (Below.refl _ _)
  clear C6 BX BY WX E8 B5 B3 B2 B1
  try simp only [List.append]
  go_wp2_with fail
  refine Calls.mono (K1.out _ (Below.refl _ _)) ?_
  rintro e w10 ⟨rfl, b10⟩
  have B1' : Hid (Below w9.heap.size w9 w10) := b10
  clear z0 z1 z2 z3 z4 z5 K1 b10
  obtain ⟨z0, z1, z2, z3, z4, z5⟩ := SS.out w10 B1'.out
  go_wp2_with fail
  refine Calls.mono (goD _ _ (pvD1 _)) ?_
  rintro e w11 ⟨rfl, b11⟩
  have B2' : Hid (Below w9.heap.size w9 w11) := nextB (nextB (nextB B1'.out (allocB _ _)) (allocB _ _)) b11
  clear z0 z1 z2 z3 z4 z5 b11
  go_wp2
  exact bodyPost_ret (v := .bool true) (by simp [results, Try.results3, go_sem]) rfl ⟨rfl, nextB UW.out B2'.out⟩


set_option maxRecDepth 100000 in
theorem lifted (os : Os) (started : os.Started) (H : Type) (enc : TypeId × Value → H) :
    ReturnsInHanded {} Try.checked os 3 .any (Rows.pageKnownSpec.pre6 enc Try.prog Try.f3 Rows.pageKnownRow.domain false) (Rows.pageKnownSpec.post enc Try.prog Try.f3 false true false false) := by
  refine returnsInHanded_of_change (C := Try.checked) own started (by kernel_rfl) Try.func3
    (ChangeSpec.witness6 (enc := enc) (C := Try.checked) false ⟨#[], #[], []⟩ 8 (by kernel_rfl) (by kernel_rfl) (by kernel_rfl) (by kernel_rfl)) ?_
  intro W base args ds gs before hval0 hW hcnd _
  have hW' := hW
  obtain ⟨p, q, hA0, hV, rfl, hfz, hnd⟩ := hW
  have hA : DataW.TrodAll enc Try.prog W 0 (fun _ => true) true Try.f3.params.toList args.toList ds p := hA0
  rw [Try.params3] at hA
  obtain ⟨rfl, rfl, rfl⟩ := trodAll_none hA
  obtain ⟨rfl, rfl⟩ := trodVars_none hV
  clear hA0 hval0
  refine (walk W).mono fun e W' ⟨he, bel⟩ => ?_
  subst he
  exact ⟨_, rfl, _, _, _, [], _, [], hW', trodAll_mk1 (shut_bool Try.underlying4 _), trodAll_mk0, rfl, bel.frame _, fun h => by cases h⟩

theorem over : Rows.pageKnownRow.holds Try.pinned (OpenSpec.ofChange Rows.pageKnownSpec) :=
  OpenClaim.holds_of_wide 3 Try.f3 rfl rfl rfl rfl rfl rfl rfl ⟨rfl, rfl, rfl, rfl, rfl⟩ rfl rfl rfl rfl rfl (by kernel_rfl) Try.func3 (by kernel_rfl)
    (of_decide_eq_true (by kernel_rfl)) (by unfold Func.isWrapper; first | (rw [if_pos (by decide +kernel)]; kernel_rfl) | (rw [if_neg (by decide +kernel)]; exact ⟨rfl, rfl⟩))
    (fun os started H enc _ => lifted os started H enc)

end Go.Proofs.Ytfedcghkohfhlaa.pageKnown
namespace Go.Proofs.Ytfedcghkohfhlaa

theorem PageKnown_holds : Rows.PageKnownSaid := pageKnown.over

end Go.Proofs.Ytfedcghkohfhlaa
