/- The walks over verify's loopsAreFree and outputs. -/
import Derived.Test.YtjkbiglnpoeddaaDoorVfu
namespace Go.Proofs.YtjkbiglnpoeddaaDoor.Vf
open Go.RowKit
set_option linter.unusedVariables false
set_option linter.unusedSimpArgs false

theorem rst_no {op : Int} (h : Rst op) : ¬ op = 21 ∧ ¬ op = 22 := by rcases h with h | h | h | h | h <;> subst h <;> decide
def allF (n : Nat) : Int := IntKind.u64.wrap (IntKind.u64.wrap (2 ^ n) - 1)
set_option maxRecDepth 100000 in
set_option maxHeartbeats 8000000 in
theorem free_any {w : World} {c : Nat} {s : S7} {p : Pg} {lv : Value} {st sk : Int} (hC : Ck w c s lv st sk) (hP : Pv w s p) (hT : RT w) (hn : s.m6 ≤ 1000000) (h0 : 0 < s.m6) (hR : ∀ x, x ∈ p.co → Rst x.1) :
    Calls Tryd.prog 34 #[.pointer (some ⟨c, 0, none⟩)] w fun e w' => e = .returned (.tuple #[.int .i64 0, .bool true]) ∧ Below w.heap.size w w' := by
  have V := hid hP
  have T := hid hT
  have HR := hid hR
  obtain ⟨g, o, ea, hI⟩ := ins_all hP.k6 h0
  have IC := hid hI
  have c6 : w.cell? ⟨c, 6, none⟩ = some (.slice (some ⟨g, o, none⟩) s.m6 s.c6) := by rw [← ea]; exact hC.cell 6 _ rfl
  have mb : (s.m6 : Int) ≤ 1000000 := by omega
  clear hC hP hT hI ea hR
  go_enter Tryd.func34, Tryd.ntmps34
  go_wp2_with fail
  go_loopg [15] (s.m6) (fun g kv wr => ∃ i : Nat, i ≤ s.m6 ∧ g = s.m6 - i ∧ kv = .int .i64 (i : Nat) ∧ Hid (Below w.heap.size w wr))
  case atStart => exact ⟨0, Nat.zero_le _, rfl, rfl, Below.refl _ _⟩
  case round =>
    obtain ⟨i, hi, rfl, rfl, HB⟩ := hrel
    by_cases q : i < s.m6
    · have q' : (i : Int) < (s.m6 : Int) := by omega
      obtain ⟨x, hx⟩ := Vw.ex V.out.k6 q
      obtain ⟨h0, h1, h2, h3⟩ := IC.out i x hx
      have k0 := celB HB.out h0
      have k1 := celB HB.out h1
      have k2 := celB HB.out h2
      have k3 := celB HB.out h3
      have X3 := hid (Bx.new wr #[.int .i64 x.1, .int .i64 x.2.1, .int .i64 x.2.2.1, .int .i64 x.2.2.2] 37 (by decide))
      have B3 := hid (nxB HB.out (allocB wr (.cells #[.int .i64 x.1, .int .i64 x.2.1, .int .i64 x.2.2.1, .int .i64 x.2.2.2] 37)))
      obtain ⟨h21, h22⟩ := rst_no (HR.out x (List.mem_of_getElem? hx))
      have KN := hid (code_Name_any x.1 _ (T.out.next B3.out))
      obtain ⟨nm, hnm⟩ : ∃ nm, opN x.1 = nm := ⟨_, rfl⟩
      rw [hnm] at KN
      have z21 : (nm.toList == [109, 97, 114, 107]) = false := by rw [← hnm]; exact nm_no x.1 21 _ rfl h21
      have z22 : (nm.toList == [111, 117, 116]) = false := by rw [← hnm]; exact nm_no x.1 22 _ rfl h22
      clear h0 h1 h2 h3 hx HB hnm h21 h22
      go_upto_region 4 with fail
      clear k0 k1 k2 k3
      generalize World.alloc wr _ = w3 at *
      generalize wr.heap.size = xb at *
      obtain ⟨x0, x1, x2, x3⟩ := Bx.q4 X3.out
      go_wp2_with (go_at_call 21; (with_reducible refine Calls.mono KN.out ?_); rintro e w4 ⟨rfl, b4⟩; have B4 := hid (nxB B3.out b4); clear b4)
      go_roundg (s.m6 - (i + 1))
      case measure => omega
      case rel => exact ⟨i + 1, by omega, rfl, by rw [Int.natCast_add]; rfl, B4.out⟩
    · have q' : ¬ (i : Int) < (s.m6 : Int) := by omega
      go_wp2_with fail
      go_returns
      exact ⟨rfl, HB.out⟩
set_option maxRecDepth 100000 in
set_option maxHeartbeats 8000000 in
theorem outputs_any {W0 w : World} {c : Nat} {s : S7} {p : Pg} {lv : Value} {st sk : Int} (hP0 : Pv W0 s p) (hT0 : RT W0) (hB0 : Below W0.heap.size W0 w) (hC : Ck w c s lv st sk) (hn : s.m6 ≤ 99999) (h0 : 0 < s.m6) (h3 : s.m3 ≤ 64)
    (hR : ∀ x, x ∈ p.co → Rst x.1 ∧ 0 ≤ x.2.1 ∧ x.2.1 ≤ 63) (hO : ∀ (k : Nat) x, p.co[k]? = some x → ∀ t, t ∈ onwF k x → 0 ≤ t ∧ t < (s.m6 : Int)) :
    Calls Tryd.prog 13 #[.pointer (some ⟨c, 0, none⟩)] w fun e w' => e = .returned (foO (folO p (allF s.m3))) ∧ Below w.heap.size w w' := by
  have KL := hid (free_any hC (hP0.next hB0) (hT0.next hB0) (by omega) h0 (fun x hx => (hR x hx).1))
  have KF := hid (fun (W : World) (b : Below w.heap.size w W) ab hb => followP_any (w := W) (ab := ab) (all := allF s.m3) hP0 hT0 (hB0.trans (b.mono hB0.size)) hn h0 hb hR hO)
  have C := hid hC
  have m3 : (s.m3 : Int) ≤ 64 := by omega
  clear hP0 hT0 hB0 hC hn h0 hR hO
  generalize folO p (allF s.m3) = G at *
  cases G with
  | none =>
    have KG := hid (fun (W : World) (b : Below w.heap.size w W) (ab : Nat) (hb : W.cell? ⟨ab, 0, none⟩ = some (.int .u64 (allF s.m3))) => show Calls Tryd.prog 35 #[.agg #[.slice s.a0 s.m0 s.c0, .slice s.a1 s.m1 s.c1, .slice s.a2 s.m2 s.c2, .slice s.a3 s.m3 s.c3, .slice s.a4 s.m4 s.c4, .slice s.a5 s.m5 s.c5, .slice s.a6 s.m6 s.c6], .agg #[.int .i64 (-1), .int .u64 0], .func (.func 36) #[] #[.pointer (some ⟨ab, 0, none⟩)]] W (fun e w' => e = .returned (.tuple #[.int .i64 (-1), .bool true]) ∧ Below W.heap.size W w') from KF.out W b ab hb)
    clear KF
    go_enter Tryd.func13, Tryd.ntmps13
    go_upto_region 4 with (go_at_call 34; (with_reducible refine Calls.mono KL.out ?_); rintro e w1 ⟨rfl, b1⟩; have B1 := hid b1; clear b1)
    have c3 : w1.cell? ⟨c, 3, none⟩ = some (.slice s.a3 s.m3 s.c3) := (Bx.next C.out B1.out).cell 3 _ rfl
    go_upto_region 5 with fail
    rw [show IntKind.u64.wrap (IntKind.u64.wrap (2 ^ s.m3) - 1) = allF s.m3 from rfl]
    generalize IntKind.u64.wrap (2 ^ s.m3) = al2 at *
    have cb := cells_new w1 [.int .u64 (allF s.m3)] 73 0 _ rfl
    have CB := hid (show (w1.alloc (.cells #[.int .u64 (allF s.m3)] 73)).cell? ⟨w1.heap.size, 0, none⟩ = some (.int .u64 (allF s.m3)) from cb)
    have B2 := hid (nxB B1.out (allocB w1 (.cells #[.int .u64 (allF s.m3)] 73)))
    have C2 := hid (Bx.next C.out B2.out)
    have KQ := hid (KG.out _ B2.out _ CB.out)
    clear cb c3 KG KL
    generalize World.alloc w1 _ = w2 at *
    generalize w1.heap.size = ab at *
    have c0 : w2.cell? ⟨c, 0, none⟩ = some (.slice s.a0 s.m0 s.c0) := C2.out.cell 0 _ rfl
    have c1 : w2.cell? ⟨c, 1, none⟩ = some (.slice s.a1 s.m1 s.c1) := C2.out.cell 1 _ rfl
    have c2 : w2.cell? ⟨c, 2, none⟩ = some (.slice s.a2 s.m2 s.c2) := C2.out.cell 2 _ rfl
    have c3 : w2.cell? ⟨c, 3, none⟩ = some (.slice s.a3 s.m3 s.c3) := C2.out.cell 3 _ rfl
    have c4 : w2.cell? ⟨c, 4, none⟩ = some (.slice s.a4 s.m4 s.c4) := C2.out.cell 4 _ rfl
    have c5 : w2.cell? ⟨c, 5, none⟩ = some (.slice s.a5 s.m5 s.c5) := C2.out.cell 5 _ rfl
    have c6 : w2.cell? ⟨c, 6, none⟩ = some (.slice s.a6 s.m6 s.c6) := C2.out.cell 6 _ rfl
    go_wp2_with (go_at_call 35; (with_reducible refine Calls.mono KQ.out ?_); rintro e w3 ⟨rfl, b3⟩; have B3 := hid (nxB B2.out b3); clear b3)
    go_returns
    exact ⟨rfl, B3.out⟩
  | some k =>
    have KG := hid (fun (W : World) (b : Below w.heap.size w W) (ab : Nat) (hb : W.cell? ⟨ab, 0, none⟩ = some (.int .u64 (allF s.m3))) => show Calls Tryd.prog 35 #[.agg #[.slice s.a0 s.m0 s.c0, .slice s.a1 s.m1 s.c1, .slice s.a2 s.m2 s.c2, .slice s.a3 s.m3 s.c3, .slice s.a4 s.m4 s.c4, .slice s.a5 s.m5 s.c5, .slice s.a6 s.m6 s.c6], .agg #[.int .i64 (-1), .int .u64 0], .func (.func 36) #[] #[.pointer (some ⟨ab, 0, none⟩)]] W (fun e w' => e = .returned (.tuple #[.int .i64 (k : Nat), .bool false]) ∧ Below W.heap.size W w') from KF.out W b ab hb)
    clear KF
    go_enter Tryd.func13, Tryd.ntmps13
    go_upto_region 4 with (go_at_call 34; (with_reducible refine Calls.mono KL.out ?_); rintro e w1 ⟨rfl, b1⟩; have B1 := hid b1; clear b1)
    have c3 : w1.cell? ⟨c, 3, none⟩ = some (.slice s.a3 s.m3 s.c3) := (Bx.next C.out B1.out).cell 3 _ rfl
    go_upto_region 5 with fail
    rw [show IntKind.u64.wrap (IntKind.u64.wrap (2 ^ s.m3) - 1) = allF s.m3 from rfl]
    generalize IntKind.u64.wrap (2 ^ s.m3) = al2 at *
    have cb := cells_new w1 [.int .u64 (allF s.m3)] 73 0 _ rfl
    have CB := hid (show (w1.alloc (.cells #[.int .u64 (allF s.m3)] 73)).cell? ⟨w1.heap.size, 0, none⟩ = some (.int .u64 (allF s.m3)) from cb)
    have B2 := hid (nxB B1.out (allocB w1 (.cells #[.int .u64 (allF s.m3)] 73)))
    have C2 := hid (Bx.next C.out B2.out)
    have KQ := hid (KG.out _ B2.out _ CB.out)
    clear cb c3 KG KL
    generalize World.alloc w1 _ = w2 at *
    generalize w1.heap.size = ab at *
    have c0 : w2.cell? ⟨c, 0, none⟩ = some (.slice s.a0 s.m0 s.c0) := C2.out.cell 0 _ rfl
    have c1 : w2.cell? ⟨c, 1, none⟩ = some (.slice s.a1 s.m1 s.c1) := C2.out.cell 1 _ rfl
    have c2 : w2.cell? ⟨c, 2, none⟩ = some (.slice s.a2 s.m2 s.c2) := C2.out.cell 2 _ rfl
    have c3 : w2.cell? ⟨c, 3, none⟩ = some (.slice s.a3 s.m3 s.c3) := C2.out.cell 3 _ rfl
    have c4 : w2.cell? ⟨c, 4, none⟩ = some (.slice s.a4 s.m4 s.c4) := C2.out.cell 4 _ rfl
    have c5 : w2.cell? ⟨c, 5, none⟩ = some (.slice s.a5 s.m5 s.c5) := C2.out.cell 5 _ rfl
    have c6 : w2.cell? ⟨c, 6, none⟩ = some (.slice s.a6 s.m6 s.c6) := C2.out.cell 6 _ rfl
    go_wp2_with (go_at_call 35; (with_reducible refine Calls.mono KQ.out ?_); rintro e w3 ⟨rfl, b3⟩; have B3 := hid (nxB B2.out b3); clear b3)
    go_returns
    exact ⟨rfl, B3.out⟩

end Go.Proofs.YtjkbiglnpoeddaaDoor.Vf
