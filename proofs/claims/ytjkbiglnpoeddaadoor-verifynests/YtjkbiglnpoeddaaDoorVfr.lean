/- The walk over verify's stacks. -/
import Derived.Test.YtjkbiglnpoeddaaDoorVfq
namespace Go.Proofs.YtjkbiglnpoeddaaDoor.Vf
open Go.RowKit
set_option linter.unusedVariables false
set_option linter.unusedSimpArgs false

set_option maxRecDepth 100000 in
set_option maxHeartbeats 8000000 in
theorem stacks_any {W0 w : World} {c : Nat} {s : S7} {p : Pg} {lv : Value} {st : Int} (hP0 : Pv W0 s p) (hT0 : RT W0) (hB0 : Below W0.heap.size W0 w) (hc : W0.heap.size ≤ c) (hC : Ck w c s lv st 0) (hn : s.m6 ≤ 99999) (h0 : 0 < s.m6)
    (hR : ∀ x, x ∈ p.co → Rst x.1) (hO : ∀ (k : Nat) x, p.co[k]? = some x → ∀ t, t ∈ onwF k x → 0 ≤ t ∧ t < (s.m6 : Int)) :
    Calls Tryd.prog 12 #[.pointer (some ⟨c, 0, none⟩)] w fun e w' => e = .returned (foO (folF p).ft) ∧ StP w w' c s lv st (folF p).sg := by
  have B1 := hid (allocB w (.cells #[.pointer (some ⟨c, 0, none⟩)] 41))
  have C1 := hid (Bx.next hC B1.out)
  have cb := cells_new w [.pointer (some ⟨c, 0, none⟩)] 41 0 _ rfl
  have CB := hid cb
  obtain ⟨bx, hbx⟩ : ∃ bx, bx = w.heap.size := ⟨_, rfl⟩
  have NE := hid (show bx ≠ c from by have := Bx.lt hC; omega)
  have WX := hid hbx
  rw [← hbx] at CB
  have KF := hid (follow_any (bx := bx) (sk := 0) hP0 hT0 (hB0.trans (B1.out.mono hB0.size)) hc C1.out rfl hn h0 CB.out NE.out hR hO)
  generalize folF p = G at *
  obtain ⟨f1, f2, f3⟩ := G
  clear hP0 hT0 hB0 hc hC hn h0 hR hO cb hbx
  go_enter Tryd.func12, Tryd.ntmps12
  go_upto_region 1 with fail
  rw [← WX.out]
  have b1 := B1.out
  generalize World.alloc w _ = w1 at *
  have cb := CB.out
  have c0 : w1.cell? ⟨c, 0, none⟩ = some (.slice s.a0 s.m0 s.c0) := C1.out.cell 0 _ rfl
  have c1 : w1.cell? ⟨c, 1, none⟩ = some (.slice s.a1 s.m1 s.c1) := C1.out.cell 1 _ rfl
  have c2 : w1.cell? ⟨c, 2, none⟩ = some (.slice s.a2 s.m2 s.c2) := C1.out.cell 2 _ rfl
  have c3 : w1.cell? ⟨c, 3, none⟩ = some (.slice s.a3 s.m3 s.c3) := C1.out.cell 3 _ rfl
  have c4 : w1.cell? ⟨c, 4, none⟩ = some (.slice s.a4 s.m4 s.c4) := C1.out.cell 4 _ rfl
  have c5 : w1.cell? ⟨c, 5, none⟩ = some (.slice s.a5 s.m5 s.c5) := C1.out.cell 5 _ rfl
  have c6 : w1.cell? ⟨c, 6, none⟩ = some (.slice s.a6 s.m6 s.c6) := C1.out.cell 6 _ rfl
  cases f3 with
  | none =>
    have KF := hid (show Calls Tryd.prog 29 #[.agg #[.slice s.a0 s.m0 s.c0, .slice s.a1 s.m1 s.c1, .slice s.a2 s.m2 s.c2, .slice s.a3 s.m3 s.c3, .slice s.a4 s.m4 s.c4, .slice s.a5 s.m5 s.c5, .slice s.a6 s.m6 s.c6], .string ⟨#[]⟩, .func (.func 30) #[] #[.pointer (some ⟨bx, 0, none⟩)]] w1 (fun e w' => e = .returned (.tuple #[.int .i64 (-1), .bool true]) ∧ StP w1 w' c s lv st f2) from KF.out)
    go_wp2_with (go_at_call 29; (with_reducible refine Calls.mono KF.out ?_); rintro e w2 ⟨rfl, p2⟩; have P2 := hid p2; clear p2)
    go_returns
    exact ⟨rfl, (Kx.of [c] B1.out).trans P2.out.kx, P2.out.ck⟩
  | some k =>
    have KF := hid (show Calls Tryd.prog 29 #[.agg #[.slice s.a0 s.m0 s.c0, .slice s.a1 s.m1 s.c1, .slice s.a2 s.m2 s.c2, .slice s.a3 s.m3 s.c3, .slice s.a4 s.m4 s.c4, .slice s.a5 s.m5 s.c5, .slice s.a6 s.m6 s.c6], .string ⟨#[]⟩, .func (.func 30) #[] #[.pointer (some ⟨bx, 0, none⟩)]] w1 (fun e w' => e = .returned (.tuple #[.int .i64 (k : Nat), .bool false]) ∧ StP w1 w' c s lv st f2) from KF.out)
    go_wp2_with (go_at_call 29; (with_reducible refine Calls.mono KF.out ?_); rintro e w2 ⟨rfl, p2⟩; have P2 := hid p2; clear p2)
    go_returns
    exact ⟨rfl, (Kx.of [c] B1.out).trans P2.out.kx, P2.out.ck⟩

end Go.Proofs.YtjkbiglnpoeddaaDoor.Vf
