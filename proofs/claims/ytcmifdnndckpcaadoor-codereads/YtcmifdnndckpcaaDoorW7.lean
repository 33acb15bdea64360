/- The walks over package pack, on: a Reader is made. -/
import Derived.Test.YtcmifdnndckpcaaDoorW6
import Derived.Laws.OwnMore
namespace Go.Proofs.YtcmifdnndckpcaaDoor
open Go.RowKit
set_option linter.unusedVariables false
set_option linter.unusedSimpArgs false

theorem own_empty (w : World) : Own (w.alloc (.cells #[] 5)) w.heap.size (.slice (some ⟨w.heap.size, 0, none⟩) 0 0) [] :=
  ⟨⟨rfl, .inr ⟨w.heap.size, 0, #[], rfl, Nat.le_refl _, heap_alloc_new w _, Nat.le_refl _, Nat.zero_le _, rfl, rfl⟩⟩, Bys.nil⟩
theorem allocB (w : World) (o : Obj) : Below w.heap.size w (w.alloc o) := (Below.refl _ _).alloc (Nat.le_refl _) _

theorem eq_nil (w : World) (a : Option Addr) (l c : Nat) : (binOp .eql 38 (.slice a l c) (.slice none 0 0)).run Tryd.prog w = .ok (.bool a.isNone) w := by
  have h : ∀ d : Nat, (Op.equalIn (d + 1) 38 (.slice a l c) (.slice none 0 0)).run Tryd.prog w = .ok a.isNone w := fun d => by
    cases a <;> simp [Op.equalIn, run_underlying Tryd.underlying38]
  simp only [binOp]
  simp [Op.equal, Op.maxDepth, h 9999]

set_option maxHeartbeats 1000000 in
theorem clone_any (a : Option Addr) (n cap : Nat) (bs : List Int) (w : World) (h : By w a n cap bs) (hn : n ≤ 20000000) :
    Calls Tryd.prog 58 #[.slice a n cap] w fun e w' => New w w' e bs := by
  have H : Hid _ := h
  cases a with
  | none =>
    obtain ⟨rfl, rfl, rfl⟩ := h.none_nil
    clear h
    have E : (binOp .eql 38 (.slice none 0 0) (.slice none 0 0)).run Tryd.prog w = .ok (.bool true) w := eq_nil w none 0 0
    go_enter Tryd.func58, Tryd.ntmps58
    go_wp2
    go_ret
    exact ⟨⟨_, rfl, Own.nil w _⟩, Below.refl _ _⟩
  | some x =>
    clear h
    have E : (binOp .eql 38 (.slice (some x) n cap) (.slice none 0 0)).run Tryd.prog w = .ok (.bool false) w := eq_nil w (some x) n cap
    go_enter Tryd.func58, Tryd.ntmps58
    go_wp2_with (at_builtin; refine wpList_append_by rfl (.tmp 5) (.tmp 6) rfl w.heap.size _ [] rfl (own_empty w) (some x) n cap bs rfl (H.out.below (allocB w _)) (by simp; omega) (by simp) ?_; intro v2 w2 o2 g2)
    go_ret
    rw [List.nil_append] at o2
    exact ⟨⟨v2, rfl, o2⟩, (allocB w _).grown g2 (by simp) (fun k hk => ((own_empty w).row.lt k hk).1)⟩

/-- A Reader is returned. -/
def NewR (w w' : World) (e : Ending) (bs : List Int) : Prop := ∃ p q, e = .returned (.pointer (some ⟨p, 0, none⟩)) ∧ Rd w' p q false bs ∧ w.heap.size ≤ p ∧ p < w'.heap.size ∧ q < w'.heap.size ∧ Below w.heap.size w w'

theorem rd_new {w w1 : World} {a : Option Addr} {cap : Nat} {bs : List Int} (h0 : 0 < w.heap.size) (hb : By w1 a bs.length cap bs) (hs : ∀ x, a = some x → w.heap.size ≤ x.block ∧ x.block < w1.heap.size) (hh : a = none ∨ ∃ g, a = some ⟨g, 0, none⟩) (bl : Below w.heap.size w w1) :
    ∃ q, Rd (w1.alloc (.cells #[.slice a bs.length cap, .bool false] 104)) w1.heap.size q false bs ∧ q < w1.heap.size := by
  have hw := bl.size
  have B := hb.below (allocB w1 (.cells #[.slice a bs.length cap, .bool false] 104))
  rcases hh with rfl | ⟨g, rfl⟩
  · exact ⟨0, ⟨⟨_, _, _, by simp, B, Or.inl rfl⟩, by simp, fun o => by simp, by omega⟩, by omega⟩
  · have := (hs _ rfl).2
    exact ⟨g, ⟨⟨_, _, _, by simp, B, Or.inr ⟨0, rfl⟩⟩, by simp, fun o => by simp, by simp at this; omega⟩, by simpa using this⟩

set_option maxHeartbeats 1000000 in
theorem Read_any (a : Option Addr) (n cap : Nat) (bs : List Int) (w : World) (h : By w a n cap bs) (hn : n ≤ 20000000) (h0 : 0 < w.heap.size) :
    Calls Tryd.prog 20 #[.slice a n cap] w fun e w' => NewR w w' e bs := by
  have H : Hid _ := h
  clear h
  go_enter Tryd.func20, Tryd.ntmps20
  go_wp2_with fail
  refine (clone_any a n cap bs w H.out hn).mono ?_
  rintro e w1 ⟨⟨v1, rfl, o1⟩, b1⟩
  obtain ⟨a1, cap1, rfl, y1, s1, hh1⟩ := o1.by
  have X : Hid _ := rd_new h0 y1 s1 hh1 b1
  clear o1 y1 s1 hh1
  go_wp2
  go_ret
  obtain ⟨q, r, hq⟩ := X.out
  exact ⟨w1.heap.size, q, rfl, r, b1.size, by simp, by simp; omega, nextB b1 (allocB w1 _)⟩

end Go.Proofs.YtcmifdnndckpcaaDoor
