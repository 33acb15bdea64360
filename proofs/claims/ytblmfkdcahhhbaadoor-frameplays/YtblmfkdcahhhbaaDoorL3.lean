/- The walk over the reference's area: Now, Used. -/
import Derived.Test.YtblmfkdcahhhbaaDoorL2
import Derived.Test.YtblmfkdcahhhbaaDoorI3
namespace Go.Proofs.YtblmfkdcahhhbaaDoor
open Go.RowKit
set_option linter.unusedVariables false
set_option linter.unusedSimpArgs false

theorem Bread_any (w : World) (pb p q N : Nat) (s : St) (ar : Ar) (v : Value) (h : Bm w pb p ar v) (d : Kk w p q N s) (ok : ArOk N ar) (at_ : Nat) :
    Calls Tryd.prog 40 #[.pointer (some ⟨pb, 0, none⟩), .int .i64 (at_ : Nat)] w fun e w' => BrP w at_ (rdB s.sec (ar.first + at_) (ar.count - at_)) e w' := by
  rcases Nat.lt_or_ge at_ ar.count with q1 | q1
  · exact Bread_on w pb p q N s ar v h d ok at_ q1
  · have e : rdB s.sec (ar.first + at_) (ar.count - at_) = none := rdB_none (fun k => by have := k.2.2.1; have := fsize_pos (hN (s.sec (ar.first + at_))); omega)
    rw [e]
    exact Bread_far w pb p ar v h at_ q1
set_option maxHeartbeats 2000000 in
theorem BNow_any (w : World) (pb p q N : Nat) (s : St) (ar : Ar) (v : Value) (h : Bm w pb p ar v) (d : Kk w p q N s) (ok : ArOk N ar) (at_ : Nat) :
    Calls Tryd.prog 45 #[.pointer (some ⟨pb, 0, none⟩), .int .i64 (at_ : Nat)] w fun e w' => BrP w at_ (rdB s.sec (ar.first + at_) (ar.count - at_)) e w' := by
  have B1 : Hid (Below w.heap.size w (w.alloc (.cells #[.int .i64 0, .int .u8 0, .string ⟨#[]⟩] 89))) := allocB _ _
  have R1 : Hid (Boxed3 (w.alloc (.cells #[.int .i64 0, .int .u8 0, .string ⟨#[]⟩] 89)) w.heap.size (.int .i64 0) (.int .u8 0) (.string ⟨#[]⟩)) := heap_alloc_last w _
  have RD : Hid _ := Bread_any _ pb p q N s ar v (h.below B1.out) (d.below B1.out) ok at_
  clear h d ok
  generalize rdB s.sec (ar.first + at_) (ar.count - at_) = r at *
  go_enter Tryd.func45, Tryd.ntmps45
  go_upto_region 1 with fail
  generalize w.alloc (.cells #[.int .i64 0, .int .u8 0, .string ⟨#[]⟩] 89) = w1 at *
  go_wp2_with fail
  refine Calls.mono RD.out ?_
  rintro e w2 ⟨rn, ry, b2⟩
  have B2 : Hid (Below w.heap.size w w2) := nextB B1.out b2
  have R2 : Hid (Boxed3 w2 w.heap.size (.int .i64 0) (.int .u8 0) (.string ⟨#[]⟩)) := (b2.block _ (Array.getElem?_eq_some_iff.1 R1.out).1).trans R1.out
  obtain ⟨k0, k1, k2, kf⟩ := Boxed3.cells R2.out
  have f0 := kf 0
  have f1 := kf 1
  have f2 := kf 2
  clear b2 RD R1 B1 kf
  cases r with
  | none =>
    obtain rfl := rn rfl
    clear rn ry
    go_wp2
    have ST := set_box3 (v0 := .int .i64 0) (v1 := .int .u8 0) (v2 := .string ⟨#[]⟩) k0 k1 k2
    refine bodyPost_ret (v := .tuple #[.agg #[.int .i64 0, .int .u8 0, .string ⟨#[]⟩], .int .u64 0, .int .u64 0, .bool false]) (by simp [results, Tryd.results45, go_sem, ST.1, ST.2.1, ST.2.2]) rfl ?_
    exact ⟨fun _ => rfl, (fun f e => (by cases e)), below3 B2.out _ _ _⟩
  | some f =>
    obtain rfl := ry f rfl
    obtain ⟨kd, lf, nm, py⟩ := f
    clear rn ry
    dsimp only
    have HX : Hid _ := fun (f : Fr) (e : some (⟨kd, lf, nm, py⟩ : Fr) = some f) => (show Ending.returned (.tuple #[.agg #[.int .i64 (at_ : Nat), .int .u8 kd, .string (strOfNums py)], .int .u64 (lf : Nat), .int .u64 (nm : Nat), .bool true]) = Ending.returned (.tuple #[.agg #[.int .i64 (at_ : Nat), .int .u8 f.kind, .string (strOfNums f.pay)], .int .u64 (f.life : Nat), .int .u64 (f.num : Nat), .bool true]) by cases e; rfl)
    generalize strOfNums py = x at *
    go_wp2
    have ST := set_box3 (v0 := .int .i64 (at_ : Nat)) (v1 := .int .u8 kd) (v2 := .string x) k0 k1 k2
    refine bodyPost_ret (v := .tuple #[.agg #[.int .i64 (at_ : Nat), .int .u8 kd, .string x], .int .u64 (lf : Nat), .int .u64 (nm : Nat), .bool true]) (by simp [results, Tryd.results45, go_sem, ST.1, ST.2.1, ST.2.2]) rfl ?_
    exact ⟨(fun e => (by cases e)), HX.out, below3 B2.out _ _ _⟩

theorem used_take {fs : List Fa} {k : Nat} (h : k < fs.length) : used (fs.take (k + 1)) = used (fs.take k) + fsize (fs[k]).pay.length := used_take_succ h
set_option maxRecDepth 100000 in
set_option maxHeartbeats 2000000 in
theorem BUsed_any (w : World) (pb p N : Nat) (ar : Ar) (v : Value) (h : Bm w pb p ar v) (ok : ArOk N ar) (hl : ∀ f ∈ ar.fs, f.pay.length ≤ 1000) :
    Calls Tryd.prog 42 #[.pointer (some ⟨pb, 0, none⟩)] w fun e w' => e = .returned (.int .i64 (used ar.fs : Nat)) ∧ w = w' := by
  obtain ⟨a, cap, rfl, f1, f2, f3, g, h1, h2⟩ := h.form
  have c4 := h.c4
  have pl := h.lt
  have H1 : Hid _ := h1
  have H2 : Hid _ := h2
  have HL : Hid _ := hl
  have ln := ok.len
  have ln' : (ar.fs.length : Int) ≤ 4096 := by omega
  have UB : Hid (∀ k, used (ar.fs.take k) ≤ 4096) := fun k => by
    have e := used_take_le (fs := ar.fs) (i := min k ar.fs.length) (j := ar.fs.length) (by omega)
    have := ok.fit; have := ok.far; have := ok.big
    rw [List.take_length] at e
    rcases Nat.le_total k ar.fs.length with q | q
    · rw [Nat.min_eq_left q] at e; omega
    · rw [List.take_of_length_le q]; omega
  clear h ok hl h1 h2 f3
  go_enter Tryd.func42, Tryd.ntmps42
  go_wp2_with fail
  go_loopg [3, 4] ar.fs.length (fun gg nv iv wr => ∃ k : Nat, k ≤ ar.fs.length ∧ gg = ar.fs.length - k ∧ nv = .int .i64 (used (ar.fs.take k) : Nat) ∧ iv = .int .i64 (k : Nat) ∧ wr = w)
  case atStart => exact ⟨0, Nat.zero_le _, rfl, by simp [used], rfl, rfl⟩
  case round =>
    obtain ⟨k, hk, rfl, rfl, rfl, rfl⟩ := hrel
    by_cases q : k < ar.fs.length
    · have q' : (k : Int) < (ar.fs.length : Int) := by omega
      obtain rfl := H1.out (by omega)
      obtain ⟨-, -, e1⟩ := H2.out k q
      have sz : (strOfNums (ar.fs[k]).pay).size = (ar.fs[k]).pay.length := str_size _
      have SZ : Hid _ := kSize_any (ar.fs[k]).pay.length wr (HL.out _ (List.getElem_mem q))
      have fl := fsize_le (HL.out _ (List.getElem_mem q))
      have u1 := UB.out k
      have US : Hid _ := used_take q
      generalize (ar.fs[k]).pay.length = m at *
      generalize strOfNums (ar.fs[k]).pay = x at *
      generalize used (ar.fs.take k) = t at *
      have u1' : (t : Int) ≤ 4096 := by omega
      have fl' : (fsize m : Int) ≤ 17 := by omega
      go_wp2_with (go_at_call 41; refine Calls.mono SZ.out ?_; rintro e w' ⟨rfl, rfl⟩)
      go_roundg (ar.fs.length - (k + 1))
      case measure => omega
      case rel => exact ⟨k + 1, q, rfl, by rw [US.out]; congr 1, by congr 1, rfl⟩
    · obtain rfl : k = ar.fs.length := by omega
      rw [List.take_length]
      go_wp2
      go_ret
      exact ⟨rfl, rfl⟩

end Go.Proofs.YtblmfkdcahhhbaaDoor
