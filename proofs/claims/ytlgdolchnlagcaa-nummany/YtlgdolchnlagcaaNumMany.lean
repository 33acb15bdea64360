/- Proved: the law NumMany of package publicanlaw1 returns true for every two slices of numbers of 64 bits, and both read afterwards as they read before, whatever memory it starts in, on every schedule; no condition. -/
import Derived.Test.YtlgdolchnlagcaaW10
import Derived.Deep.LoopGhost
import Derived.Deep.Light
import Derived.ProofKit
import Derived.OpenShut
import Derived.ShutString
import Derived.ChangeOld
import Derived.Below
namespace Go.Proofs.Ytlgdolchnlagcaa.numMany
open Go.ChangeShapes Go.WideShapes Go.ChangeAt Go.RowKit
open Go.ChangeMaps (open_string shut_string)
set_option linter.unusedVariables false

theorem own : ownKnob Try.prog.godebug = none := by kernel_rfl
theorem laidOut : laidOutB Try.prog = true := by kernel_rfl

/-- A slice of integers that came in. -/
def IsRow (k : IntKind) (w : World) (a : Option Addr) (len cap : Nat) (zs : List Int) : Prop :=
  (a = none ∧ len = 0 ∧ cap = 0 ∧ zs = []) ∨
  ∃ x, a = some x ∧ len ≤ cap ∧ cap ≤ maxLen ∧ zs.length = cap ∧ (∀ i, i < zs.length → w.cell? (x.add i) = some (.int k (zs.getD i 0))) ∧ ∀ n ∈ zs, (Lit.int k n).wf = true

theorem _root_.Go.Proofs.Ytlgdolchnlagcaa.St.put {w wc : World} {b : Nat} {va vb : Int} (s : St w b (b + 1) va vb wc) (h : w.heap.size ≤ b) (A B : Int) :
    St w b (b + 1) A B ((((wc.setCell ⟨b, 0, none⟩ (Value.int IntKind.i64 (A / M64))).setCell ⟨b, 1, none⟩ (Value.int IntKind.u64 (A % M64))).setCell ⟨b + 1, 0, none⟩ (Value.int IntKind.i64 (B / M64))).setCell ⟨b + 1, 1, none⟩ (Value.int IntKind.u64 (B % M64))).drew := by
  have x := Lies.set (A / M64) (A % M64) s.x.hi s.x.lo s.x.lt
  have x2 := x.other (c := b + 1) (u := Value.int IntKind.i64 (B / M64)) (v := Value.int IntKind.u64 (B % M64)) (by omega)
  have y1 : ((wc.setCell ⟨b, 0, none⟩ (Value.int IntKind.i64 (A / M64))).setCell ⟨b, 1, none⟩ (Value.int IntKind.u64 (A % M64))).cell? ⟨b + 1, 0, none⟩ = some (.int .i64 (vb / M64)) :=
    ((World.cell?_setCell_other _ _ _ _ (by simp)).trans (World.cell?_setCell_other _ _ _ _ (by simp))).trans s.y.hi
  have y2 : ((wc.setCell ⟨b, 0, none⟩ (Value.int IntKind.i64 (A / M64))).setCell ⟨b, 1, none⟩ (Value.int IntKind.u64 (A % M64))).cell? ⟨b + 1, 1, none⟩ = some (.int .u64 (vb % M64)) :=
    ((World.cell?_setCell_other _ _ _ _ (by simp)).trans (World.cell?_setCell_other _ _ _ _ (by simp))).trans s.y.lo
  have y := Lies.set (B / M64) (B % M64) y1 y2 (by simpa using s.y.lt)
  have d := (Below.refl ((((wc.setCell ⟨b, 0, none⟩ (Value.int IntKind.i64 (A / M64))).setCell ⟨b, 1, none⟩ (Value.int IntKind.u64 (A % M64))).setCell ⟨b + 1, 0, none⟩ (Value.int IntKind.i64 (B / M64))).setCell ⟨b + 1, 1, none⟩ (Value.int IntKind.u64 (B % M64))).heap.size ((((wc.setCell ⟨b, 0, none⟩ (Value.int IntKind.i64 (A / M64))).setCell ⟨b, 1, none⟩ (Value.int IntKind.u64 (A % M64))).setCell ⟨b + 1, 0, none⟩ (Value.int IntKind.i64 (B / M64))).setCell ⟨b + 1, 1, none⟩ (Value.int IntKind.u64 (B % M64)))).drew
  refine ⟨x2.below d, y.below d, ?_, ?_, ?_⟩
  · exact ((((s.bl.setCell (p := ⟨b, 0, none⟩) h _).setCell (p := ⟨b, 1, none⟩) h _).setCell (p := ⟨b + 1, 0, none⟩) (by simp; omega) _).setCell (p := ⟨b + 1, 1, none⟩) (by simp; omega) _).drew
  · intro o; simpa using s.f5 o
  · intro o; simpa using s.f6 o

set_option maxHeartbeats 1000000 in
theorem walk_long (a0 : Option Addr) (len0 cap0 : Nat) (a1 : Option Addr) (len1 cap1 : Nat) (w : World) (h : 30 < len0 ∨ len1 ≠ len0) (m0 : len0 ≤ maxLen) (m1 : len1 ≤ maxLen) :
    Calls Try.prog 7 #[.slice a0 len0 cap0, .slice a1 len1 cap1] w fun e w' => e = .returned (.bool true) ∧ Below w.heap.size w w' := by
  unfold maxLen at m0 m1
  by_cases c : 30 < len0
  · have c' : (30 : Int) < (len0 : Int) := by omega
    go_enter Try.func7, Try.ntmps7
    go_wp2_with fail
    refine (awake_any _).mono ?_
    rintro e w1 ⟨rfl, hb1⟩
    go_wp2
    go_ret
    exact ⟨rfl, hb1⟩
  · have c' : ¬ (30 : Int) < (len0 : Int) := by omega
    have d : ((len1 : Int) != (len0 : Int)) = true := by rw [bne_iff_ne]; omega
    go_enter Try.func7, Try.ntmps7
    go_wp2_with fail
    refine (awake_any _).mono ?_
    rintro e w1 ⟨rfl, hb1⟩
    go_wp2
    go_ret
    exact ⟨rfl, hb1⟩

set_option maxHeartbeats 8000000 in
set_option maxRecDepth 100000 in
theorem walk_main (a0 a1 : Option Addr) (b0 o0 b1 o1 n cap0 cap1 : Nat) (L M : Nat → Int) (w : World) (hn : n ≤ 30) (e0 : 0 < n → a0 = some ⟨b0, o0, none⟩) (e1 : 0 < n → a1 = some ⟨b1, o1, none⟩)
    (hL : ∀ i, i < n → w.cell? ⟨b0, o0 + i, none⟩ = some (.int .i64 (L i)) ∧ -M63 ≤ L i ∧ L i < M63) (hM : ∀ i, i < n → w.cell? ⟨b1, o1 + i, none⟩ = some (.int .i64 (M i)) ∧ -M63 ≤ M i ∧ M i < M63) :
    Calls Try.prog 7 #[.slice a0 n cap0, .slice a1 n cap1] w fun e w' => e = .returned (.bool true) ∧ Below w.heap.size w w' := by
  have c' : ¬ (30 : Int) < (n : Int) := by omega
  have HL : Hid _ := hL
  have HM : Hid _ := hM
  clear hL hM
  go_enter Try.func7, Try.ntmps7
  go_wp2_with fail
  refine (awake_any _).mono ?_
  rintro e w1 ⟨rfl, hb1⟩
  go_wp2_with fail
  refine (of0 _).mono ?_
  rintro e w2 ⟨rfl, hb2⟩
  go_wp2_with fail
  refine (of0 _).mono ?_
  rintro e w3 ⟨rfl, hb3⟩
  go_wp2_with fail
  have ST : St w w3.heap.size (w3.heap.size + 1) 0 0 ((w3.alloc (.cells #[.int .i64 0, .int .u64 0] 28)).alloc (.cells #[.int .i64 0, .int .u64 0] 28)) := by
    have z2 := hb1.trans (hb2.mono hb1.size)
    have z3 := z2.trans (hb3.mono z2.size)
    have z4 := z3.alloc z3.size (.cells #[.int .i64 0, .int .u64 0] 28)
    have y := Lies.new (w3.alloc (.cells #[.int .i64 0, .int .u64 0] 28)) 0 0
    refine ⟨(Lies.new w3 0 0).alloc _, by simpa using y, z4.alloc z4.size _, fun o => by simp, fun o => by simp⟩
  have hs5 : w.heap.size ≤ w3.heap.size := by have := hb1.size; have := hb2.size; have := hb3.size; omega
  clear hb1 hb2 hb3
  go_loopg [7, 8] n (fun g ok i wr => ∃ (k : Nat) (o : Bool) (va vb : Int), k ≤ n ∧ g = n - k ∧ i = .int .i64 k ∧ ok = .bool o ∧ St w w3.heap.size (w3.heap.size + 1) va vb wr ∧ (-M127 ≤ va ∧ va < M127 ∧ -M127 ≤ vb ∧ vb < M127) ∧ (o = true → va = fwd (fun j => L j * M j) k ∧ vb = bwd (fun j => L j * M j) n k))
  case atStart => exact ⟨0, true, 0, 0, Nat.zero_le _, rfl, rfl, rfl, ST, by decide, fun _ => ⟨rfl, rfl⟩⟩
  case round =>
    obtain ⟨k, o, va, vb, hk, rfl, rfl, rfl, S, V, ho⟩ := hrel
    have HO : Hid _ := ho
    clear ho ST
    by_cases lt : k < n
    · have lt' : (k : Int) < (n : Int) := by omega
      obtain rfl := e0 (by omega)
      obtain rfl := e1 (by omega)
      obtain ⟨x1, x2, x3⟩ := HL.out k lt
      obtain ⟨y1, y2, y3⟩ := HM.out k lt
      obtain ⟨j, ej, hj⟩ : ∃ j : Nat, (n : Int) - 1 - (k : Int) = (j : Int) ∧ j = n - 1 - k := ⟨n - 1 - k, by omega, rfl⟩
      obtain ⟨X1, X2, X3⟩ := HL.out j (by omega)
      obtain ⟨Y1, Y2, Y3⟩ := HM.out j (by omega)
      have jl : (j : Int) < (n : Int) := by omega
      have HJ : Hid (j = n - 1 - k) := hj
      clear hj
      have R : RdP wr w3.heap.size b0 b1 (o0 + k) (o1 + k) (va / M64) (va % M64) (L k) (M k) wr :=
        ⟨S.x.hi, S.x.lo, by rw [S.bl.cell (p := ⟨b0, o0 + k, none⟩) (World.block_lt_of_cell? _ _ x1)]; exact x1, by rw [S.bl.cell (p := ⟨b1, o1 + k, none⟩) (World.block_lt_of_cell? _ _ y1)]; exact y1, Below.refl _ _⟩
      have R2 : ∀ wx, St w w3.heap.size (w3.heap.size + 1) va vb wx → RdP wx (w3.heap.size + 1) b1 b0 (o1 + j) (o0 + j) (vb / M64) (vb % M64) (M j) (L j) wx := fun wx T =>
        ⟨T.y.hi, T.y.lo, by rw [T.bl.cell (p := ⟨b1, o1 + j, none⟩) (World.block_lt_of_cell? _ _ Y1)]; exact Y1, by rw [T.bl.cell (p := ⟨b0, o0 + j, none⟩) (World.block_lt_of_cell? _ _ X1)]; exact X1, Below.refl _ _⟩
      have HR2 : Hid _ := R2
      have HS : Hid _ := S
      obtain ⟨v1, v2, v3, v4⟩ := V
      clear x1 y1 X1 Y1 R2 S
      go_upto_region 10 with fail
      go_cut [9, 10] (fun p q wx => q = .bool (wfit (va + L k * M k)) ∧ ∃ b9, p = .pointer (some ⟨b9, 0, none⟩) ∧ Put wr wx b9 (wclip (va + L k * M k)))
      case first =>
        go_region_held3 (RdP wr w3.heap.size b0 b1 (o0 + k) (o1 + k) (va / M64) (va % M64) (L k) (M k)) (first | exact R.mk (Below.refl _ _).drew | exact R.mk (putA (wclip (va + L k * M k)) hb5).2.1 | exact RdP.call R (by assumption) (by assumption) | exact RdP.alloc R (by assumption) _ | exact RdP.store R (by assumption) (by simp) | exact RdP.store R (by assumption) (by omega)) (first | (go_at_call 23; refine (plusmul_val _ _ _ _ v1 v2 x2 x3 y2 y3).mono ?_; rintro e w5 ⟨rfl, hb5⟩; obtain ⟨hc5, hf5⟩ := bcell hb5; have s5 := hb5.size; try simp at s5; try (have s5x := Nat.lt_of_succ_le s5)))
        all_goals go_wp2
        all_goals go_meet
        all_goals first | exact ⟨rfl, _, rfl, putA _ hb5⟩ | exact ⟨rfl, _, rfl, putB _ hb5⟩
      case rest =>
        obtain ⟨rfl, b9, rfl, L9, hb9, ge9⟩ := hcut
        have S1 := HS.out.below hb9
        have R3 := HR2.out wc S1
        have nb := S1.x.lt
        have nc := S1.y.lt
        generalize hf : wfit (va + L k * M k) = f
        have HF : Hid (wfit (va + L k * M k) = f) := hf
        clear hf R
        go_upto_region 12 with fail
        go_cut [12, 13] (fun p q wx => q = .bool (wfit (vb + M j * L j)) ∧ ∃ b12, p = .pointer (some ⟨b12, 0, none⟩) ∧ Put wc wx b12 (wclip (vb + M j * L j)))
        case first =>
          go_region_held3 (RdP wc (w3.heap.size + 1) b1 b0 (o1 + j) (o0 + j) (vb / M64) (vb % M64) (M j) (L j)) (first | exact R3.mk (Below.refl _ _).drew | exact R3.mk (putA (wclip (vb + M j * L j)) hb5).2.1 | exact RdP.call R3 (by assumption) (by assumption) | exact RdP.alloc R3 (by assumption) _ | exact RdP.store R3 (by assumption) (by simp) | exact RdP.store R3 (by assumption) (by omega)) (first | (go_at_call 23; refine (plusmul_val _ _ _ _ v3 v4 Y2 Y3 X2 X3).mono ?_; rintro e w5 ⟨rfl, hb5⟩; obtain ⟨hc5, hf5⟩ := bcell hb5; have s5 := hb5.size; try simp at s5; try (have s5x := Nat.lt_of_succ_le s5)))
          all_goals go_wp2
          all_goals go_meet
          all_goals first | exact ⟨rfl, _, rfl, putA _ hb5⟩ | exact ⟨rfl, _, rfl, putB _ hb5⟩
        case rest =>
          rename_i wd
          obtain ⟨rfl, b12, rfl, L12, hb12, ge12⟩ := hcut
          have S2 := S1.below hb12
          have L9' := L9.below hb12
          generalize hg : wfit (vb + M j * L j) = g
          have HG : Hid (wfit (vb + M j * L j) = g) := hg
          generalize hA : wclip (va + L k * M k) = A at *
          generalize hB : wclip (vb + M j * L j) = B at *
          have HA : Hid (wclip (va + L k * M k) = A) := hA
          have HB : Hid (wclip (vb + M j * L j) = B) := hB
          have t1 := L9'.hi
          have t2 := L9'.lo
          have t3 := L12.hi
          have t4 := L12.lo
          have t5 := S2.x.hi
          have t6 := S2.x.lo
          have t7 := S2.y.hi
          have t8 := S2.y.lo
          have t9 := S2.f5
          have t10 := S2.f6
          clear hg hA hB R3 S1 L9
          go_upto_region 13 with fail
          go_region
          have SN := S2.put hs5 A B
          have bA := wclip_bd (va + L k * M k)
          have bB := wclip_bd (vb + M j * L j)
          rw [HA.out] at bA
          rw [HB.out] at bB
          have VN : Hid (-M127 ≤ A ∧ A < M127 ∧ -M127 ≤ B ∧ B < M127) := ⟨bA.1, bA.2, bB.1, bB.2⟩
          have SH : Hid _ := SN
          clear t1 t2 t3 t4 t5 t6 t7 t8 t9 t10 S2 L9' L12 bA bB SN HR2 HS
          cases o with
          | false =>
            go_wp2
            go_roundg (n - (k + 1))
            case measure => omega
            case rel => exact ⟨k + 1, false, A, B, by omega, rfl, by go_num, rfl, SH.out, VN.out, fun h => by cases h⟩
          | true =>
            cases f with
            | false =>
              go_wp2
              go_roundg (n - (k + 1))
              case measure => omega
              case rel => exact ⟨k + 1, false, A, B, by omega, rfl, by go_num, rfl, SH.out, VN.out, fun h => by cases h⟩
            | true =>
              cases g with
              | false =>
                go_wp2
                go_roundg (n - (k + 1))
                case measure => omega
                case rel => exact ⟨k + 1, false, A, B, by omega, rfl, by go_num, rfl, SH.out, VN.out, fun h => by cases h⟩
              | true =>
                go_wp2
                go_roundg (n - (k + 1))
                case measure => omega
                case rel =>
                  refine ⟨k + 1, true, A, B, by omega, rfl, by go_num, rfl, SH.out, VN.out, fun _ => ?_⟩
                  have q1 := wclip_yes HF.out
                  have q2 := wclip_yes HG.out
                  rw [HA.out] at q1
                  rw [HB.out] at q2
                  obtain ⟨r1, r2⟩ := HO.out trivial
                  refine ⟨?_, ?_⟩
                  · rw [q1, r1]; rfl
                  · rw [q2, r2, HJ.out, Int.mul_comm]; rfl
    · have hkn : k = n := by omega
      subst hkn
      clear e0 e1
      have Z : Hid _ := S.bl
      have s1 := S.x.hi
      have s2 := S.x.lo
      have s3 := S.y.hi
      have s4 := S.y.lo
      clear S V
      cases o with
      | false =>
        go_wp2
        go_ret
        exact ⟨rfl, Z.out⟩
      | true =>
        obtain ⟨r1, r2⟩ := HO.out rfl
        have e : vb = va := by rw [r1, r2, fwd_bwd]
        subst e
        clear r1 r2 HO
        go_wp2
        go_ret
        exact ⟨rfl, Z.out⟩

theorem wf_bd {a : Int} (h : (Lit.int .i64 a).wf = true) : -M63 ≤ a ∧ a < M63 := by
  have := bounds_i64 h
  unfold M63; omega

theorem row_at {w : World} {a : Option Addr} {len cap : Nat} {zs : List Int} (h : IsRow .i64 w a len cap zs) :
    len ≤ maxLen ∧ ∃ b o : Nat, (0 < len → a = some ⟨b, o, none⟩) ∧ ∀ i, i < len → w.cell? ⟨b, o + i, none⟩ = some (.int .i64 (zs.getD i 0)) ∧ -M63 ≤ zs.getD i 0 ∧ zs.getD i 0 < M63 := by
  rcases h with ⟨rfl, rfl, rfl, rfl⟩ | ⟨x, rfl, h1, h2, h3, h4, h5⟩
  · exact ⟨Nat.zero_le _, 0, 0, fun h => by omega, fun i h => by omega⟩
  · refine ⟨by omega, ?_⟩
    by_cases z : 0 < len
    · obtain ⟨b, o, rfl, hc⟩ := ints_at h4 (by omega)
      refine ⟨b, o, fun _ => rfl, fun i hi => ⟨hc i (by omega), ?_⟩⟩
      have hi' : i < zs.length := by omega
      have e : zs.getD i 0 = zs[i] := by simp [List.getD, hi']
      rw [e]
      exact wf_bd (h5 _ (List.getElem_mem hi'))
    · exact ⟨0, 0, fun h => by omega, fun i h => by omega⟩

theorem walk (a0 : Option Addr) (len0 cap0 : Nat) (z0 : List Int) (a1 : Option Addr) (len1 cap1 : Nat) (z1 : List Int) (w : World) (w0 : IsRow .i64 w a0 len0 cap0 z0) (w1 : IsRow .i64 w a1 len1 cap1 z1) :
    Calls Try.prog 7 #[.slice a0 len0 cap0, .slice a1 len1 cap1] w fun e w' => e = .returned (.bool true) ∧ Below w.heap.size w w' := by
  obtain ⟨m0, b0, o0, e0, c0⟩ := row_at w0
  obtain ⟨m1, b1, o1, e1, c1⟩ := row_at w1
  by_cases h : 30 < len0 ∨ len1 ≠ len0
  · exact walk_long a0 len0 cap0 a1 len1 cap1 w h m0 m1
  · obtain rfl : len1 = len0 := by omega
    exact walk_main a0 a1 b0 o0 b1 o1 len1 cap0 cap1 (fun i => z0.getD i 0) (fun i => z1.getD i 0) w (by omega) e0 e1 c0 c1

set_option maxRecDepth 100000 in
theorem lifted (os : Os) (started : os.Started) (H : Type) (enc : TypeId × Value → H) :
    ReturnsInHanded {} Try.checked os 7 .any (Rows.numManySpec.pre6 enc Try.prog Try.f7 Rows.numManyRow.domain false) (Rows.numManySpec.post enc Try.prog Try.f7 false true false false) := by
  refine returnsInHanded_of_change (C := Try.checked) own started (by kernel_rfl) Try.func7
    (ChangeSpec.witness6 (enc := enc) (C := Try.checked) false ⟨#[], #[.slice none 0 0, .slice none 0 0], []⟩ 8 (by kernel_rfl) (by kernel_rfl) (by kernel_rfl) (by kernel_rfl)) ?_
  intro W base args ds gs before hval0 hW hcnd _
  have hval : ∀ (j : Nat) t v, Try.f7.params[j]? = some t → args[j]? = some v → Value.okWide Try.prog W .any base t v := hval0
  have hW' := hW
  obtain ⟨p, q, hA0, hV, rfl, hfz, hnd⟩ := hW
  have hA : DataW.TrodAll enc Try.prog W 0 (fun _ => true) true Try.f7.params.toList args.toList ds p := hA0
  rw [Try.params7] at hA hval
  obtain ⟨v0, vs0, d0, ds0, p0, q0, hargs, rfl, rfl, h0, r0⟩ := trodAll_cons hA
  obtain ⟨v1, vs1, d1, ds1, p1, q1, rfl, rfl, rfl, h1, r1⟩ := trodAll_cons r0
  obtain ⟨rfl, rfl, rfl⟩ := trodAll_nil r1
  obtain rfl : args = #[v0, v1] := by cases args; simp_all
  obtain ⟨rfl, rfl⟩ := trodVars_none hV
  obtain ⟨a0, len0, cap0, rfl⟩ := okWide_slice Try.underlying49 (hval 0 49 v0 rfl rfl)
  have k0 := h0
  have lt0 : ∀ x ∈ p0, x.block < W.heap.size := by obtain ⟨m, hm⟩ := k0; exact DataW.trod_lt m _ _ _ hm
  obtain ⟨z0, w0⟩ : ∃ zs, IsRow .i64 W a0 len0 cap0 zs := by
    obtain ⟨fuel, hf⟩ := h0
    rcases open_ints Try.underlying49 Try.underlying2 (by kernel_rfl) hf with ⟨hcs, _⟩ | ⟨x, l, c, zs, hcs, _, hl, hm, hz, _, hcell, hwz⟩
    · simp [Value.cells] at hcs
      obtain ⟨rfl, rfl, rfl⟩ := hcs
      exact ⟨[], .inl ⟨rfl, rfl, rfl, rfl⟩⟩
    · simp [Value.cells] at hcs
      obtain ⟨rfl, rfl, rfl⟩ := hcs
      exact ⟨zs, .inr ⟨_, rfl, hl, hm, by simpa using hz, hcell, hwz⟩⟩
  obtain ⟨a1, len1, cap1, rfl⟩ := okWide_slice Try.underlying49 (hval 1 49 v1 rfl rfl)
  have k1 := h1
  have lt1 : ∀ x ∈ p1, x.block < W.heap.size := by obtain ⟨m, hm⟩ := k1; exact DataW.trod_lt m _ _ _ hm
  obtain ⟨z1, w1⟩ : ∃ zs, IsRow .i64 W a1 len1 cap1 zs := by
    obtain ⟨fuel, hf⟩ := h1
    rcases open_ints Try.underlying49 Try.underlying2 (by kernel_rfl) hf with ⟨hcs, _⟩ | ⟨x, l, c, zs, hcs, _, hl, hm, hz, _, hcell, hwz⟩
    · simp [Value.cells] at hcs
      obtain ⟨rfl, rfl, rfl⟩ := hcs
      exact ⟨[], .inl ⟨rfl, rfl, rfl, rfl⟩⟩
    · simp [Value.cells] at hcs
      obtain ⟨rfl, rfl, rfl⟩ := hcs
      exact ⟨zs, .inr ⟨_, rfl, hl, hm, by simpa using hz, hcell, hwz⟩⟩
  clear hA0 hval0
  refine (walk a0 len0 cap0 z0 a1 len1 cap1 z1 W w0 w1).mono fun e W' ⟨he, bel⟩ => ?_
  subst he
  exact ⟨_, rfl, _, _, _, [], _, [], hW', trodAll_mk1 (shut_bool Try.underlying4 _), (trodAll_cons_mk (Below.trod laidOut (by kernel_rfl) (of_decide_eq_true (by kernel_rfl)) k0 bel lt0) (trodAll_cons_mk (Below.trod laidOut (by kernel_rfl) (of_decide_eq_true (by kernel_rfl)) k1 bel lt1) trodAll_mk0)), rfl, bel.frame _, fun h => by cases h⟩

theorem over : Rows.numManyRow.holds Try.pinned (OpenSpec.ofChange Rows.numManySpec) :=
  OpenClaim.holds_of_wide 7 Try.f7 rfl rfl rfl rfl rfl rfl rfl ⟨rfl, rfl, rfl, rfl, rfl⟩ rfl rfl rfl rfl rfl (by kernel_rfl) Try.func7 (by kernel_rfl)
    (of_decide_eq_true (by kernel_rfl)) (by unfold Func.isWrapper; first | (rw [if_pos (by decide +kernel)]; kernel_rfl) | (rw [if_neg (by decide +kernel)]; exact ⟨rfl, rfl⟩))
    (fun os started H enc _ => lifted os started H enc)

end Go.Proofs.Ytlgdolchnlagcaa.numMany
namespace Go.Proofs.Ytlgdolchnlagcaa

theorem NumMany_holds : Rows.NumManySaid := numMany.over

end Go.Proofs.Ytlgdolchnlagcaa
