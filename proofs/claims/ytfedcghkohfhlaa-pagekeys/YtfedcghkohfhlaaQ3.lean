/- The walks over package page: values, Encode, Bytes. -/
import Derived.Test.YtfedcghkohfhlaaQ2
import Derived.Test.YtfedcghkohfhlaaS2
namespace Go.Proofs.Ytfedcghkohfhlaa
open Go.RowKit
set_option linter.unusedVariables false
set_option linter.unusedSimpArgs false

/-- Things are returned, in new memory. -/
def NewV (T : TypeId) (w w' : World) (e : Ending) (vs : List Value) : Prop := (∃ v, e = .returned v ∧ Ow w' T w.heap.size v vs) ∧ Below w.heap.size w w'

set_option maxHeartbeats 1000000 in
theorem values_any (v : Value) (p : Pg) (w : World) (h : Pv w v p) (f : Fit p) (hl : p.leaf = true) :
    Calls Try.prog 40 #[v] w fun e w' => NewV 9 w w' e (sv p.vals) := by
  obtain ⟨ka, kn, kc, va, vn, vc, ia, im, ic, rfl, h1, h2, h3⟩ := h.ex
  obtain ⟨lf, ks, vs, is⟩ := p
  simp only at h1 h2 h3 hl
  have l1 := h1.slen
  have l2 := h2.slen
  have b1 := f.keys
  have ev := f.even hl
  simp only at b1 ev
  obtain rfl : kn = vn := by omega
  have nb : kn ≤ 2000 := by omega
  have MK : ∀ o : Obj, (Instr.makeSlice 23 (.int .i64 (kn : Nat)) (.int .i64 (kn : Nat))).run Try.prog (w.alloc o) = .ok (.slice (some ⟨(w.alloc o).heap.size, 0, none⟩) kn kn) ((w.alloc o).alloc (.cells (List.replicate kn (Value.string ByteArray.empty)).toArray 9)) := fun o => make_str (w.alloc o) kn (by omega)
  have CP : ∀ o : Obj, (Builtin.copy_ #[23, 23] 3 #[.slice (some ⟨(w.alloc o).heap.size, 0, none⟩) kn kn, .slice va kn vc]).run Try.prog ((w.alloc o).alloc (.cells (List.replicate kn (Value.string ByteArray.empty)).toArray 9)) = .ok (.int .i64 (kn : Nat)) ((w.alloc o).alloc (.cells (sv vs).toArray 9)) := fun o => copy_str (w.alloc o) 3 va kn vc (sv vs) (h2.below (allocB w o)) (by omega)
  have O : Hid (∀ o : Obj, Ow ((w.alloc o).alloc (.cells (sv vs).toArray 9)) 9 (w.alloc o).heap.size (.slice (some ⟨(w.alloc o).heap.size, 0, none⟩) kn kn) (sv vs)) := fun o => by
    have := ow_new (w.alloc o) 9 (sv vs) (sv_one vs) (by rw [sv_len]; omega)
    rw [sv_len, l2] at this
    exact this
  have B : Hid (∀ o o' : Obj, Below w.heap.size w ((w.alloc o).alloc o')) := fun o o' => nextB (allocB w o) (allocB _ o')
  simp only [World.size_alloc] at MK CP O
  generalize (List.replicate kn (Value.string ByteArray.empty)).toArray = Z at *
  generalize (sv vs).toArray = C at *
  clear h h1 h2 h3 f l1 l2 ev
  go_enter Try.func40, Try.ntmps40
  go_wp2
  go_ret
  exact ⟨⟨_, rfl, (O.out _).mono (by omega)⟩, B.out _ _⟩

end Go.Proofs.Ytfedcghkohfhlaa
