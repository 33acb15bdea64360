/- The walks over package publicanref1, on: numbers by digits in memory; a number's digits. -/
import Derived.Test.YtlgdolchnlagcaaB2
namespace Go.Proofs.Ytlgdolchnlagcaa
open Go.RowKit
set_option linter.unusedVariables false

def sgn (neg : Bool) (n : Int) : Int := if neg then -n else n
/-- A number by digits, as a value in memory. -/
structure Bg (w : World) (neg : Bool) (a : Option Addr) (m cap : Nat) (ds : List Int) (n : Int) : Prop where
  dg : Dg w a m cap ds
  trim : Trim ds
  pos : neg = true → 0 < m
  val : n = sgn neg (dval ds)
  small : m ≤ 32
theorem Bg.below {w w' : World} {neg : Bool} {a : Option Addr} {m cap : Nat} {ds : List Int} {n : Int} (h : Bg w neg a m cap ds n) (hb : Below w.heap.size w w') : Bg w' neg a m cap ds n :=
  ⟨h.dg.below hb, h.trim, h.pos, h.val, h.small⟩

/-- What trim makes of digits. -/
theorem Bg.of_cut {w w' : World} {neg : Bool} {a : Option Addr} {n cap m : Nat} {ds : List Int} (h : Dg w a n cap ds) (hm : m ≤ n) (c : CutAt ds n m) (hb : Below w.heap.size w w') (l : dval ds < pw 32) :
    Bg w' (neg && decide (0 < m)) a m cap (ds.take m) (sgn neg (dval ds)) := by
  have d := (h.take hm).below hb
  have e : dval (ds.take m) = dval ds := dval_take (fun j h1 h2 => c.1 j h1 (by rw [h.len] at h2; exact h2))
  have t : Trim (ds.take m) := by
    intro p
    rw [d.len] at p ⊢
    have q := c.2 p
    have : (ds.take m).getD (m - 1) 0 = ds.getD (m - 1) 0 := by simp [List.getD, show m - 1 < m by omega]
    rw [this]; exact q
  refine ⟨d, t, ?_, ?_, ?_⟩
  · intro p
    simp at p
    exact p.2
  · rw [e]
    by_cases z : 0 < m
    · simp [z]
    · have z0 : m = 0 := by omega
      subst z0
      simp [dval] at e
      rw [← e]; unfold sgn; simp
  · have := trim_len d.ok t (k := 32) (by rw [e]; exact l)
    rw [d.len] at this
    exact this

theorem info26 : (Try.prog.info? 26).map (fun i => (i.zero, i.size, i.bytes)) = some (some (.int .u64 0), 1, 8) := by kernel_rfl

/-- Digits of the call's own, as they are read. -/
theorem Dg.of_owns {w : World} {base : Nat} {v : Value} {ds : List Int} (h : w.ownsRow base 26 1 v ds.length (ds.map (Value.int .u64))) (ok : DsOk ds) : ∃ a cap, v = .slice a ds.length cap ∧ Dg w a ds.length cap ds ∧ ∀ x, a = some x → base ≤ x.block := by
  have hh := h
  obtain ⟨h1, h2⟩ := h
  rcases h2 with ⟨rfl, h3⟩ | ⟨g, cap, cur, rfl, hb, hg, hn, hm, hs, ht⟩
  · have : ds = [] := List.length_eq_zero_iff.1 h3
    subst this
    exact ⟨none, 0, rfl, ⟨rfl, Nat.le_refl _, Nat.zero_le _, ⟨0, 0, fun p => by simp at p, fun i hi => by simp at hi⟩, ok⟩, fun x hx => by simp at hx⟩
  · refine ⟨_, cap, rfl, ⟨rfl, hn, hm, ⟨g, 0, fun _ => rfl, fun i hi => ?_⟩, ok⟩, fun x hx => by simp at hx; subst hx; exact hb⟩
    have e := hh.cellAt i (by omega)
    rw [Nat.zero_add, e]
    simp [List.getD, hi]

/-- A store into another block. -/
theorem Dg.store {w : World} {a : Option Addr} {n cap : Nat} {ds : List Int} (h : Dg w a n cap ds) {c : Nat} (hf : 0 < n → ∀ x, a = some x → x.block ≠ c) (u v : Value) :
    Dg ((w.setCell ⟨c, 0, none⟩ u).setCell ⟨c, 1, none⟩ v) a n cap ds := by
  obtain ⟨b, o, h1, h2⟩ := h.cell
  refine ⟨h.len, h.fits, h.max, ⟨b, o, h1, fun i hi => ?_⟩, h.ok⟩
  have ne := hf (by omega) _ (h1 (by omega))
  rw [World.cell?_setCell_other _ _ _ _ (fun e => ne (by have := congrArg Addr.block e; simpa using this.symm)), World.cell?_setCell_other _ _ _ _ (fun e => ne (by have := congrArg Addr.block e; simpa using this.symm))]
  exact h2 i hi
theorem Bg.store {w : World} {neg : Bool} {a : Option Addr} {m cap : Nat} {ds : List Int} {n : Int} (h : Bg w neg a m cap ds n) {c : Nat} (hf : 0 < m → ∀ x, a = some x → x.block ≠ c) (u v : Value) :
    Bg ((w.setCell ⟨c, 0, none⟩ u).setCell ⟨c, 1, none⟩ v) neg a m cap ds n := ⟨h.dg.store hf u v, h.trim, h.pos, h.val, h.small⟩
/-- Digits lie in old blocks. -/
theorem Dg.old {w : World} {a : Option Addr} {n cap : Nat} {ds : List Int} (h : Dg w a n cap ds) : 0 < n → ∀ x, a = some x → x.block < w.heap.size := by
  intro p x hx
  obtain ⟨b, o, h1, h2⟩ := h.cell
  have := World.block_lt_of_cell? _ _ (h2 0 p)
  rw [h1 p] at hx
  simp at hx
  subst hx
  exact this

theorem mask16 (u : Int) (h0 : 0 ≤ u) (h1 : u < 18446744073709551616) : bits .and .u64 u 65535 = u % 65536 := by
  obtain ⟨n, rfl⟩ := Int.eq_ofNat_of_zero_le h0
  have h := bits_and_u64_nat n 65535 (by omega) (by omega)
  rw [show n &&& 65535 = n % 65536 from Nat.and_two_pow_sub_one_eq_mod n 16] at h
  have e : ((65535 : Nat) : Int) = 65535 := rfl
  rw [e] at h
  rw [h]; omega

theorem owns_step {W w1 w' : World} {B : Nat} {v v' : Value} {ds : List Int} {x : Int} (hB : B ≤ w1.heap.size) (hbl : Below B W w1) (hown : w1.ownsRow B 26 1 v ds.length (ds.map (Value.int .u64)))
    (h' : w'.ownsRow B 26 1 v' (ds.length + 1) (ds.map (Value.int .u64) ++ [Value.int .u64 x])) (hg : (w1.alloc (.cells #[.int .u64 x] 26)).grownBy w' v.ownBlock) :
    w'.ownsRow B 26 1 v' (ds ++ [x]).length ((ds ++ [x]).map (Value.int .u64)) ∧ Below B W w' ∧ B ≤ w'.heap.size := by
  refine ⟨by simpa using h', ?_, ?_⟩
  · refine (hbl.alloc hB _).grown hg (by simp; omega) ?_
    intro k hk
    exact (hown.lt k hk).1
  · have := hg.size; simp at this; omega

/-- A number by digits is returned, its digits in new memory. -/
def NewB (w w' : World) (e : Ending) (n : Int) : Prop :=
  ∃ sg a m cap ds, e = .returned (.agg #[.bool sg, .slice a m cap]) ∧ Bg w' sg a m cap ds n ∧ (0 < m → ∀ x, a = some x → w.heap.size ≤ x.block)

/-- .. and is handed on through the caller's own place, made earlier. -/
theorem NewB.pass {w w0 w1 : World} {n : Int} {sg : Bool} {a : Option Addr} {m cap : Nat} {ds : List Int} (h : Bg w1 sg a m cap ds n) (f : 0 < m → ∀ x, a = some x → w0.heap.size ≤ x.block) {r : Nat} (hr : r < w0.heap.size) (hw : w.heap.size ≤ w0.heap.size) :
    NewB w ((w1.setCell ⟨r, 0, none⟩ (.bool sg)).setCell ⟨r, 1, none⟩ (.slice a m cap)) (.returned (.agg #[.bool sg, .slice a m cap])) n :=
  ⟨sg, a, m, cap, ds, rfl, h.store (fun p x hx => by have := f p x hx; omega) _ _, fun p x hx => by have := f p x hx; omega⟩

set_option maxHeartbeats 1000000 in
theorem u_any (u : Int) (neg : Bool) (w : World) (h0 : 0 ≤ u) (h1 : u < 18446744073709551616) :
    Calls Try.prog 34 #[.int .u64 u, .bool neg] w fun e w' => NewB w w' e (sgn neg u) ∧ Below w.heap.size w w' := by
  obtain ⟨i0, hi, hz0, hz1, hz2⟩ := info_parts info26
  have HI : Hid _ := hi
  have HZ : Hid _ := And.intro hz0 (And.intro hz1 hz2)
  clear hi hz0 hz1 hz2
  go_enter Try.func34, Try.ntmps34
  go_wp2_with fail
  go_loopg [0, 5] 5 (fun g uv d wr => ∃ (x : Int) (ds : List Int), uv = .int .u64 x ∧ 0 ≤ x ∧ x < 18446744073709551616 ∧ ds.length ≤ 4 ∧ g = 5 - ds.length ∧ wr.ownsRow (w.heap.size + 1) 26 1 d ds.length (ds.map (Value.int .u64)) ∧ Below (w.heap.size + 1) (w.alloc (.cells #[.bool false, .slice none 0 0] 35)) wr ∧ w.heap.size + 1 ≤ wr.heap.size ∧ Hid (DsOk ds) ∧ Hid (u = dval ds + x * pw ds.length))
  case atStart => exact ⟨u, [], rfl, h0, h1, by simp, rfl, World.ownsRow_nil _ _ _ _, Below.refl _ _, by simp, fun d hd => by simp at hd, show u = 0 + u * 1 by omega⟩
  case round =>
    obtain ⟨x, ds, rfl, x0, x1, hl, rfl, hown, hbl, hsz, hok, hval⟩ := hrel
    by_cases c : 0 < x
    · have m16 := mask16 x x0 x1
      go_wp2_with (first | (at_builtin; refine wpList_append_own _ rfl (.tmp 8) (.tmp 11) 33 rfl (w.heap.size + 1) 26 i0 (.int .u64 0) 1 8 Try.underlying33 HI.out HZ.out.1 HZ.out.2.1 HZ.out.2.2 rfl (by decide) _ _ _ rfl (hown.alloc _) ⟨wr.heap.size, 0, none⟩ 1 1 [.int .u64 (x % 65536)] rfl rfl ?c1 ?c2 ?c3 ?c4 ?c5 ?_))
      case c1 => exact cell_one_new _ _ _
      case c2 => intro u hu; simp at hu; subst hu; rfl
      case c3 => unfold maxLen; omega
      case c4 => omega
      case c5 => simp; omega
      intro v' w1 hown' hgrow _
      have R := owns_step hsz hbl hown hown' hgrow
      have hl5 : ds.length + 1 ≤ 4 := by
        rcases Nat.lt_or_ge ds.length 4 with q | q
        · omega
        · have e : ds.length = 4 := by omega
          have v := hval.out
          rw [e] at v
          have n := dval_nonneg hok.out
          have : pw 4 = 18446744073709551616 := by decide
          rw [this] at v
          omega
      have hok' : Hid (DsOk (ds ++ [x % 65536])) := hok.out.snoc (by omega) (by unfold K16; omega)
      have hval' : Hid (u = dval (ds ++ [x % 65536]) + x / 65536 * pw (ds ++ [x % 65536]).length) := by
        show u = _
        rw [dval_snoc, hval.out]
        have e : pw (ds ++ [x % 65536]).length = 65536 * pw ds.length := by simp [pw, K16]
        rw [e]
        have q : x = 65536 * (x / 65536) + x % 65536 := by omega
        have r : x * pw ds.length = (65536 * (x / 65536) + x % 65536) * pw ds.length := by rw [← q]
        rw [r, Int.add_mul, Int.mul_assoc, Int.mul_left_comm 65536]
        omega
      clear hown hown' hgrow m16
      go_wp2
      go_roundg (5 - (ds.length + 1))
      case measure => omega
      case rel => exact ⟨x / 65536, ds ++ [x % 65536], rfl, by omega, by omega, by simpa using hl5, by simp, R.1, R.2.1, R.2.2, hok', hval'⟩
    · have x00 : x = 0 := by omega
      subst x00
      obtain ⟨a, cap, rfl, dg, far⟩ := Dg.of_owns hown hok.out
      have e : u = dval ds := by have := hval.out; omega
      subst e
      clear hown hval c
      go_wp2_with fail
      refine (trim_any _ _ _ _ _ _ dg (by omega)).mono ?_
      rintro e w1 ⟨⟨m, hm, rfl, hcut⟩, hb1⟩
      have lt : dval ds < pw 32 := by
        have := dval_lt hok.out
        have := pw_le (show ds.length ≤ 32 by omega)
        omega
      have HBg : Hid _ := Bg.of_cut (neg := neg) dg hm hcut hb1 lt
      have c0 : wr.cell? ⟨w.heap.size, 0, none⟩ = some (.bool false) := by rw [hbl.cell (p := ⟨w.heap.size, 0, none⟩) (by simp)]; simp
      have c1 : wr.cell? ⟨w.heap.size, 1, none⟩ = some (.slice none 0 0) := by rw [hbl.cell (p := ⟨w.heap.size, 1, none⟩) (by simp)]; simp
      have f0 : ∀ o, wr.frozen? ⟨w.heap.size, o, none⟩ = false := fun o => by rw [hbl.frozen (p := ⟨w.heap.size, o, none⟩) (by simp)]; simp
      have d0 : w1.cell? ⟨w.heap.size, 0, none⟩ = some (.bool false) := by rw [hb1.cell (p := ⟨w.heap.size, 0, none⟩) (by show w.heap.size < _; omega)]; exact c0
      have d1 : w1.cell? ⟨w.heap.size, 1, none⟩ = some (.slice none 0 0) := by rw [hb1.cell (p := ⟨w.heap.size, 1, none⟩) (by show w.heap.size < _; omega)]; exact c1
      have g0 : ∀ o, w1.frozen? ⟨w.heap.size, o, none⟩ = false := fun o => by rw [hb1.frozen (p := ⟨w.heap.size, o, none⟩) (by show w.heap.size < _; omega)]; exact f0 o
      have HD : Hid _ := And.intro dg (And.intro hm (And.intro hcut hb1))
      clear hcut c0 c1 f0
      have FAR : Hid _ := far
      clear far
      generalize hsg : (neg && decide (0 < m)) = sg at *
      clear hsg
      go_wp2
      refine bodyPost_ret (v := .agg #[.bool sg, .slice a m cap]) (by simp [results, Try.results34, go_sem, d0, d1]) rfl ⟨⟨sg, a, m, cap, _, rfl, HBg.out.store (fun _ x hx => by have := FAR.out x hx; omega) _ _, fun _ x hx => by have := FAR.out x hx; omega⟩, ?_⟩
      have y := ((Below.refl w.heap.size w).alloc (Nat.le_refl _) (.cells #[.bool false, .slice none 0 0] 35)).trans (hbl.mono (by omega))
      exact ((y.trans (hb1.mono (by omega))).setCell (p := ⟨w.heap.size, 0, none⟩) (Nat.le_refl _) _).setCell (p := ⟨w.heap.size, 1, none⟩) (Nat.le_refl _) _

theorem sgn_false (n : Int) : sgn false n = n := rfl
theorem sgn_true (n : Int) : sgn true n = -n := rfl

/-- The wrapped minus of a number below 0, without its sign. -/
theorem neg_wrap {v : Int} (h : -M63 ≤ v) (k : v < 0) : IntKind.u64.wrap (-IntKind.u64.wrap v) = -v := by
  rw [wrapU', wrapU']; unfold M63 at h; omega
theorem pos_wrap {v : Int} (h : v < M63) (k : 0 ≤ v) : IntKind.u64.wrap v = v := by
  rw [wrapU']; unfold M63 at h; omega

/-- The place of a result, made at the call's begin, behind a call. -/
theorem place_at {w W w1 : World} {r : Nat} (hr : w.heap.size ≤ r) (hl : r < W.heap.size) (c0 : W.cell? ⟨r, 0, none⟩ = some (.bool false)) (c1 : W.cell? ⟨r, 1, none⟩ = some (.slice none 0 0)) (f : ∀ o, W.frozen? ⟨r, o, none⟩ = false)
    (hb0 : Below w.heap.size w W) (hb : Below W.heap.size W w1) :
    w1.cell? ⟨r, 0, none⟩ = some (.bool false) ∧ w1.cell? ⟨r, 1, none⟩ = some (.slice none 0 0) ∧ (∀ o, w1.frozen? ⟨r, o, none⟩ = false) ∧ ∀ u v, Below w.heap.size w ((w1.setCell ⟨r, 0, none⟩ u).setCell ⟨r, 1, none⟩ v) := by
  refine ⟨by rw [hb.cell (p := ⟨r, 0, none⟩) hl]; exact c0, by rw [hb.cell (p := ⟨r, 1, none⟩) hl]; exact c1, fun o => by rw [hb.frozen (p := ⟨r, o, none⟩) hl]; exact f o, fun u v => ?_⟩
  exact ((hb0.trans (hb.mono hb0.size)).setCell (p := ⟨r, 0, none⟩) hr _).setCell (p := ⟨r, 1, none⟩) hr _

set_option maxHeartbeats 1000000 in
theorem bof_any (v : Int) (w : World) (h0 : -M63 ≤ v) (h1 : v < M63) :
    Calls Try.prog 17 #[.int .i64 v] w fun e w' => NewB w w' e v ∧ Below w.heap.size w w' := by
  by_cases c : v < 0
  · have e1 := neg_wrap h0 c
    have b0 : 0 ≤ -v := by omega
    have b1 : -v < 18446744073709551616 := by unfold M63 at h0; omega
    go_enter Try.func17, Try.ntmps17
    go_wp2_with fail
    refine (u_any _ _ _ b0 b1).mono ?_
    rw [sgn_true, Int.neg_neg]
    rintro e w1 ⟨⟨sg, a, m, cap, ds, rfl, hg, hf⟩, hb1⟩
    obtain ⟨d0, d1, g0, hB⟩ := place_at (w := w) (r := w.heap.size) (Nat.le_refl _) (by simp) (by simp) (by simp) (by simp) ((Below.refl _ _).alloc (Nat.le_refl _) _) hb1
    have HP : Hid _ := NewB.pass (w := w) hg hf (r := w.heap.size) (by simp) (by simp)
    have HB : Hid _ := hB
    clear hg hf hb1 hB
    go_wp2
    exact bodyPost_ret (v := .agg #[.bool sg, .slice a m cap]) (by simp [results, Try.results17, go_sem, d0, d1]) rfl ⟨HP.out, HB.out _ _⟩
  · have e1 := pos_wrap h1 (show 0 ≤ v by omega)
    have b0 : 0 ≤ v := by omega
    have b1 : v < 18446744073709551616 := by unfold M63 at h1; omega
    have c2 : decide (v < 0) = false := by simp; omega
    go_enter Try.func17, Try.ntmps17
    go_wp2_with fail
    refine (u_any _ _ _ b0 b1).mono ?_
    rw [sgn_false]
    rintro e w1 ⟨⟨sg, a, m, cap, ds, rfl, hg, hf⟩, hb1⟩
    obtain ⟨d0, d1, g0, hB⟩ := place_at (w := w) (r := w.heap.size) (Nat.le_refl _) (by simp) (by simp) (by simp) (by simp) ((Below.refl _ _).alloc (Nat.le_refl _) _) hb1
    have HP : Hid _ := NewB.pass (w := w) hg hf (r := w.heap.size) (by simp) (by simp)
    have HB : Hid _ := hB
    clear hg hf hb1 hB
    go_wp2
    exact bodyPost_ret (v := .agg #[.bool sg, .slice a m cap]) (by simp [results, Try.results17, go_sem, d0, d1]) rfl ⟨HP.out, HB.out _ _⟩

theorem cut_of_trim {ds : List Int} {n m : Nat} (hl : ds.length = n) (t : Trim ds) (hm : m ≤ n) (c : CutAt ds n m) : m = n := by
  rcases Nat.eq_or_lt_of_le hm with q | q
  · exact q
  · exact absurd (c.1 (n - 1) (by omega) (by omega)) (by have := t (by omega); rw [hl] at this; exact this)

theorem minus_val {neg : Bool} {m : Nat} {d : Int} (p : neg = true → 0 < m) (z : m = 0 → d = 0) : sgn (!neg && decide (0 < m)) d = -sgn neg d := by
  rcases Nat.eq_zero_or_pos m with q | q
  · have := z q
    subst this
    simp [sgn]
  · cases neg <;> simp [sgn, q]

set_option maxHeartbeats 1000000 in
theorem bminus_any (neg : Bool) (a : Option Addr) (m cap : Nat) (ds : List Int) (n : Int) (w : World) (h : Bg w neg a m cap ds n) :
    Calls Try.prog 20 #[.agg #[.bool neg, .slice a m cap]] w fun e w' => (∃ sg, e = .returned (.agg #[.bool sg, .slice a m cap]) ∧ Bg w' sg a m cap ds (-n)) ∧ Below w.heap.size w w' := by
  have old := h.dg.old
  go_enter Try.func20, Try.ntmps20
  go_wp2_with fail
  have hb0 : Below w.heap.size w ((w.alloc (.cells #[.bool neg, .slice a m cap] 35)).alloc (.cells #[.bool false, .slice none 0 0] 35)) := ((Below.refl _ _).alloc (Nat.le_refl _) _).alloc (by simp) _
  have h2 := h.below hb0
  refine (trim_any _ _ _ _ _ _ h2.dg (by have := h.small; omega)).mono ?_
  rintro e w1 ⟨⟨k, hk, rfl, hcut⟩, hb1⟩
  obtain rfl := cut_of_trim h.dg.len h.trim hk hcut
  obtain ⟨d0, d1, g0, hB⟩ := place_at (w := w) (r := w.heap.size + 1) (by omega) (by simp) (by simp) (by simp) (by simp) hb0 hb1
  have hv : sgn (!neg && decide (0 < k)) (dval ds) = -n := by
    rw [h.val]
    exact minus_val h.pos (fun z => by
      have : ds = [] := List.length_eq_zero_iff.1 (by rw [h.dg.len]; exact z)
      rw [this]; rfl)
  have HP : Hid (∀ u v, Bg ((w1.setCell ⟨w.heap.size + 1, 0, none⟩ u).setCell ⟨w.heap.size + 1, 1, none⟩ v) (!neg && decide (0 < k)) a k cap ds (-n)) := fun u v =>
    Bg.store ⟨(h2.below hb1).dg, h.trim, fun p => by simp at p; exact p.2, hv.symm, h.small⟩ (fun p x hx => by have := old p x hx; omega) u v
  have HB : Hid _ := hB
  clear hb1 hB h2 hb0 hcut hv h old
  generalize (!neg && decide (0 < k)) = sg at *
  go_wp2
  exact bodyPost_ret (v := .agg #[.bool sg, .slice a k cap]) (by simp [results, Try.results20, go_sem, d0, d1]) rfl ⟨⟨sg, rfl, HP.out _ _⟩, HB.out _ _⟩

end Go.Proofs.Ytlgdolchnlagcaa
