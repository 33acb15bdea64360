/- The walks over package disk, on: Cut. -/
import Derived.Test.YtblmfkdcahhhbaaDoorD2
namespace Go.Proofs.YtblmfkdcahhhbaaDoor
open Go.RowKit
set_option linter.unusedVariables false
set_option linter.unusedSimpArgs false

def odd (h : Int) : Bool := decide (h % 2 = 1)
theorem i64_and1 (n : Int) : bits .and .i64 n 1 = n % 2 := by
  have key : (BitVec.ofInt 64 n &&& BitVec.ofInt 64 1).toNat = (n % ((2 ^ 64 : Nat) : Int)).toNat % 2 := by
    rw [BitVec.toNat_and, BitVec.toNat_ofInt, show (BitVec.ofInt 64 1).toNat = 1 by decide, Nat.and_one_is_mod]
  show IntKind.i64.wrap ((BitVec.ofInt 64 n &&& BitVec.ofInt 64 1).toNat : Nat) = n % 2
  rw [key, IntKind.wrap_i64]
  omega
set_option maxHeartbeats 1000000 in
theorem Cut_any (p q n : Nat) (s : St) (m h : Int) (w : World) (hd : Dk w p q n s) (hm : m ≤ 9223372036854775807) :
    Calls Tryd.prog 19 #[.pointer (some ⟨p, 0, none⟩), .int .i64 m, .int .i64 h] w fun e w' => e = .returned (.tuple #[]) ∧ Dk w' p q n (s.cutTo m (odd h)) ∧ Gr p q w w' := by
  have c4 := hd.c4
  have c5 := hd.c5
  have f := hd.fp
  have hb : (bits .and .i64 h 1 == 1) = odd h := by rw [i64_and1]; rfl
  have D : Hid (∀ k : Nat, k = m.toNat → Dk ((w.setCell ⟨p, 4, none⟩ (.int .i64 (k : Nat))).setCell ⟨p, 5, none⟩ (.bool (odd h))) p q n (s.cutTo m (odd h))) := fun k hk => by
    subst hk
    exact (hd.set4 m.toNat (by omega)).set5 (odd h)
  have G : Hid (∀ v, Gr p q w ((w.setCell ⟨p, 4, none⟩ v).setCell ⟨p, 5, none⟩ (.bool (odd h)))) := fun v => (Gr.set (p := p) q w 4 v).trans (Gr.set q _ 5 (.bool (odd h)))
  generalize odd h = o at *
  clear hd hm
  by_cases h0 : 0 ≤ m
  · obtain ⟨k, rfl⟩ : ∃ k : Nat, m = k := ⟨m.toNat, by omega⟩
    go_enter Tryd.func19, Tryd.ntmps19
    go_wp2
    go_returns
    exact ⟨rfl, D.out k (by omega), G.out _⟩
  · have h1 : m < 0 := by omega
    go_enter Tryd.func19, Tryd.ntmps19
    go_wp2
    go_returns
    exact ⟨rfl, D.out 0 (by omega), G.out _⟩
end Go.Proofs.YtblmfkdcahhhbaaDoor
