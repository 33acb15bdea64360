/- The walks over Show, EqualFunc and Same. -/
import Derived.Test.YtobolipjgkabhaaDoorQc
import Derived.Laws.BytesArg
namespace Go.Proofs.YtobolipjgkabhaaDoor
open Go.Shelf Go.RowKit
set_option linter.unusedVariables false
set_option linter.unusedSimpArgs false

theorem nums_str (l : List UInt8) : strOfNums (l.map fun x => (x.toNat : Int)) = ⟨l.toArray⟩ := by
  unfold strOfNums
  rw [List.map_map]
  have : ((fun z : Int => UInt8.ofNat z.toNat) ∘ fun x : UInt8 => (x.toNat : Int)) = id := by
    funext x
    simp
  first | rw [this, List.map_id] | (simp [this])
theorem Ob.str {w : World} {B : Nat} {v : Value} {l : List UInt8} (h : Ob w B v l) (h0 : 0 < l.length) : (convert 42 9 v).run Tryd.prog w = .ok (.string ⟨l.toArray⟩) w := by
  obtain ⟨g, c, rfl, _, cl, _⟩ := h.at_ h0
  have := run_convert_bytes_arg (P := Tryd.prog) w 42 5 Tryd.underlying42 Tryd.underlying5 g 0 l.length c (l.map fun x => (x.toNat : Int)) (by simp) (fun i hi => by
    have e : l[i]? = some l[i] := List.getElem?_eq_getElem hi
    have := cl i _ e
    rw [Nat.zero_add, this]
    simp [e]) 9 Tryd.underlying9
  rw [nums_str] at this
  exact this
set_option maxHeartbeats 1000000 in
theorem Show_any (t : Tr) (w : World) (sa : Option Addr) (sm sc : Nat) (S : Nat → Prop) (hN : Nd w S (.slice sa sm sc) t.kids) (hS : ∀ B, w.heap.size ≤ B → SC B t) (hT : Lib.TabIs Tryd.prog w "internal/strconv.uint64pow10" .u64 Lib.pow10Tab) (hK : KT w) (h0 : 0 < (shw t).length) (hl : (shw t).length ≤ 100000000) :
    Calls Tryd.prog 6 #[.agg #[.string t.op, .string t.name, .int .i64 (t.kind : Nat), .int .i64 t.n, .int .i64 (t.pl : Nat), .slice sa sm sc]] w fun e w' => e = .returned (.string ⟨(shw t).toArray⟩) ∧ Below w.heap.size w w' := by
  have B0 := hid (show Below w.heap.size w (w.alloc (.cells #[.string t.op, .string t.name, .int .i64 (t.kind : Nat), .int .i64 t.n, .int .i64 (t.pl : Nat), .slice sa sm sc] 26)) from (Below.refl _ _).alloc (Nat.le_refl _) _)
  have HC := hid (hS _ B0.out.size (w.alloc (.cells #[.string t.op, .string t.name, .int .i64 (t.kind : Nat), .int .i64 t.n, .int .i64 (t.pl : Nat), .slice sa sm sc] 26)) [] (.slice none 0 0) sa sm sc (hN.keep fun g s l => ⟨Nat.lt_of_lt_of_le l B0.out.size, B0.out.block g l⟩) (Ob.nil _ _ (Nat.le_refl _)) (Lib.tabBelow_of_tabIs (Lib.tabIs_alloc hT _)) (hK.next B0.out) (by simpa using hl))
  obtain ⟨c0, c1, c2, c3, c4, c5, cz⟩ := B6.new w 26 (.string t.op) (.string t.name) (.int .i64 (t.kind : Nat)) (.int .i64 t.n) (.int .i64 (t.pl : Nat)) (.slice sa sm sc)
  clear hN hS hT hK
  generalize shw t = F at *
  go_enter Tryd.func6, Tryd.ntmps6
  go_upto_region 1 with fail
  generalize World.alloc w _ = w1 at *
  go_wp2_with (go_at_call 10; with_reducible refine Calls.mono HC.out ?_; rintro e w2 ⟨v2, rfl, o2, b2⟩; have kd := o2.str (by simpa using h0); have B2 := hid (B0.out.trans (b2.bl.mono B0.out.size)); clear o2 b2)
  go_ret
  exact ⟨rfl, B2.out⟩
mutual
/-- Whether two trees are alike but for where they stand. -/
def smT : Tr → Tr → Bool
  | .nd o m k n _ ks, .nd o' m' k' n' _ ks' => eqB o o' && eqB m m' && decide (k = k') && decide (n = n') && smL ks ks'
def smL : List Tr → List Tr → Bool
  | [], [] => true
  | [], _ :: _ => false
  | _ :: _, [] => false
  | t :: ts, u :: us => smT t u && smL ts us
end
end Go.Proofs.YtobolipjgkabhaaDoor
