/- append, and where the grown row lies; a new row filled by copy. -/
import Derived.Test.YtfedcghkohfhlaaPa
import Derived.Maps.AppendAt
import Derived.Deep.RegionLaw
import Derived.Deep.OwnRows
import Derived.Deep.WholeRow
import Derived.Deep.MidRow
import Derived.Laws.CopyRow
import Derived.Laws.IdiomCopy
namespace Go.Proofs.Ytfedcghkohfhlaa
open Go.RowKit
set_option linter.unusedVariables false
set_option linter.unusedSimpArgs false

/-- Where the grown row lies: where it lay, or in the newest block. -/
def Lies (w : World) (v v' : Value) : Prop := v'.ownBlock = v.ownBlock ∨ v'.ownBlock = some w.heap.size

theorem run_append_sl {w : World} (S T : TypeId) (z : Value) (by0 : Nat) (hu : Try.prog.underlying S = some (.slice T)) (hinf : (Try.prog.info? T).map (fun i => (i.zero, i.size, i.bytes)) = some (some z, 1, by0)) (hz : z.cells.size = 1) (hby : by0 ≤ 16) (ty : TypeId)
    (base : Nat) (v : Value) (xs : List Value) (hown : Ow w T base v xs) (ad : Option Addr) (m c : Nat) (vs : List Value) (hb : Sl w ad m c vs) (hbytes : xs.length + m ≤ 1000000) (hbase : base ≤ w.heap.size) :
    ∃ v' w', (Builtin.append_ #[S, S] ty #[v, .slice ad m c]).run Try.prog w = .ok v' w' ∧ Ow w' T base v' (xs ++ vs) ∧ w.grownBy w' v.ownBlock ∧ Lies w v v' := by
  obtain ⟨i0, hi, hz0, hz1, hz2⟩ := info_parts hinf
  cases ad with
  | none =>
    obtain ⟨rfl, rfl, rfl⟩ := hb.none_nil
    exact ⟨v, w, run_append_owned_none w base S ty T i0 1 hu hi v _ _ hown.row, by simpa using hown, World.grownBy.refl w _, Or.inl rfl⟩
  | some ad =>
    obtain ⟨v', w', hr, h2, h3, h4, h5⟩ := run_append_own_at (P := Try.prog) w base S ty T i0 z 1 by0 hu hi hz0 hz1 hz2 hz (by decide) v _ _ hown.row ad m c vs (by simp [hb.len]) hb.news hb.one (by unfold maxLen; omega) (by
      have : (xs.length + m) * by0 ≤ 1000000 * 16 := Nat.mul_le_mul hbytes hby
      omega) hbase
    refine ⟨v', w', hr, ⟨?_, fun u hu => ?_⟩, h3, h5⟩
    · have e : (xs ++ vs).length = xs.length + m := by simp [hb.len]
      rw [e]
      exact h2
    · rcases List.mem_append.1 hu with q | q
      · exact hown.one u q
      · exact hb.one u q

section
variable {w : World} {ops : Array Oper} {rest : List Oper} {o : Oper} {a : Act} {K : Act → World → Prop} {Q : Exit → Act → World → Prop} {E : Prop}
theorem wpList_append_sa (S T : TypeId) (z : Value) (by0 : Nat) (hu : Try.prog.underlying S = some (.slice T)) (hinf : (Try.prog.info? T).map (fun i => (i.zero, i.size, i.bytes)) = some (some z, 1, by0)) (hz : z.cells.size = 1) (hby : by0 ≤ 16)
    (hgd : o.guard = none) (s x : Operand) (ho : o.op = .call { callee := .builtin .append, args := #[s, x], argTypes := #[S, S] })
    (base : Nat) (v : Value) (xs : List Value) (hs : a.eval s = v) (hown : Ow w T base v xs) (ad : Option Addr) (m c : Nat) (vs : List Value) (hx : a.eval x = .slice ad m c) (hb : Sl w ad m c vs)
    (hbytes : xs.length + m ≤ 1000000) (hbase : base ≤ w.heap.size)
    (h : ∀ v' w', Ow w' T base v' (xs ++ vs) → w.grownBy w' v.ownBlock → Lies w v v' → wpList Try.prog ops Q rest (a.put o.dst v') w') : wpList Try.prog ops Q (o :: rest) a w := by
  refine wpList_plain hgd fun K hK => ?_
  obtain ⟨v', w', hr, h2, h3, h4⟩ := run_append_sl S T z by0 hu hinf hz hby o.type base v xs hown ad m c vs hb hbytes hbase
  unfold Oper.wp execOp
  simp only [ho, resolve, invoke, builtin, Sem.run_bind, Sem.run_pure, Result.andThen_ok, List.map_toArray, List.map_cons, List.map_nil, hs, hx, hr]
  exact hK _ _ (h v' w' h2 h3 h4)
theorem step_append_sa (S T : TypeId) (z : Value) (by0 : Nat) (hu : Try.prog.underlying S = some (.slice T)) (hinf : (Try.prog.info? T).map (fun i => (i.zero, i.size, i.bytes)) = some (some z, 1, by0)) (hz : z.cells.size = 1) (hby : by0 ≤ 16)
    (hgd : o.guard = none) (s x : Operand) (ho : o.op = .call { callee := .builtin .append, args := #[s, x], argTypes := #[S, S] })
    (base : Nat) (v : Value) (xs : List Value) (hs : a.eval s = v) (hown : Ow w T base v xs) (ad : Option Addr) (m c : Nat) (vs : List Value) (hx : a.eval x = .slice ad m c) (hb : Sl w ad m c vs)
    (hbytes : xs.length + m ≤ 1000000) (hbase : base ≤ w.heap.size)
    (h : ∀ v' w', Ow w' T base v' (xs ++ vs) → w.grownBy w' v.ownBlock → Lies w v v' → K (a.put o.dst v') w') : if Region.wanted o (yielded ops a.tmps) = true then Oper.wp Try.prog o a w K Q else E := by
  have hw : Region.wanted o (yielded ops a.tmps) = true := by simp [Region.wanted, hgd]
  rw [if_pos hw]
  obtain ⟨v', w', hr, h2, h3, h4⟩ := run_append_sl S T z by0 hu hinf hz hby o.type base v xs hown ad m c vs hb hbytes hbase
  unfold Oper.wp execOp
  simp only [ho, resolve, invoke, builtin, Sem.run_bind, Sem.run_pure, Result.andThen_ok, List.map_toArray, List.map_cons, List.map_nil, hs, hx, hr]
  exact h v' w' h2 h3 h4

/-- Bytes so. -/
theorem By.sl {w : World} {a : Option Addr} {n cap : Nat} {bs : List Int} (h : By w a n cap bs) : Sl w a n cap (bs.map (Value.int .u8)) := by
  obtain ⟨b, o, h1, h2⟩ := h.cell
  have hl := h.len
  refine ⟨by simp [h.len], h.fits, h.max, h.nil, ⟨b, o, h1, fun i u hi => ?_⟩, bytes_one bs⟩
  have := lt_of_some hi
  rw [List.length_map] at this
  rw [h2 i (by omega), ← hi]
  simp [List.getD, this]
theorem wpList_append_ba (hgd : o.guard = none) (s x : Operand) (ho : o.op = .call { callee := .builtin .append, args := #[s, x], argTypes := #[30, 30] })
    (base : Nat) (v : Value) (xs : List Int) (hs : a.eval s = v) (hown : Own w base v xs) (ad : Option Addr) (m c : Nat) (bs : List Int) (hx : a.eval x = .slice ad m c) (hb : By w ad m c bs)
    (hbytes : xs.length + m ≤ 1000000) (hbase : base ≤ w.heap.size)
    (h : ∀ v' w', Own w' base v' (xs ++ bs) → w.grownBy w' v.ownBlock → Lies w v v' → wpList Try.prog ops Q rest (a.put o.dst v') w') : wpList Try.prog ops Q (o :: rest) a w := by
  refine wpList_append_sa 30 5 (.int .u8 0) 1 Try.underlying30 byteInfo rfl (by decide) hgd s x ho base v (xs.map (Value.int .u8)) hs ⟨by rw [List.length_map]; exact hown.row, bytes_one xs⟩ ad m c (bs.map (Value.int .u8)) hx hb.sl (by rw [List.length_map]; exact hbytes) hbase ?_
  intro v' w' h1 h2 h3
  refine h v' w' ⟨?_, hown.ok.app hb.ok⟩ h2 h3
  have := h1.row
  rw [← List.map_append, List.length_map] at this
  exact this
end

/-- What two rows apart make of an append to one. -/
theorem Ow.apart {w w' : World} {T : TypeId} {base : Nat} {v u : Value} {vs : List Value} (h : Ow w T base v vs) (hg : w.grownBy w' u.ownBlock) (hne : ∀ g, v.ownBlock = some g → u.ownBlock ≠ some g) : Ow w' T base v vs :=
  h.grown hg fun g hv e => hne g hv e.symm
theorem Ow.lt {w : World} {T : TypeId} {base : Nat} {v : Value} {vs : List Value} (h : Ow w T base v vs) : ∀ g, v.ownBlock = some g → base ≤ g ∧ g < w.heap.size := fun g hg => h.row.lt g hg
theorem Own.lt {w : World} {base : Nat} {v : Value} {vs : List Int} (h : Own w base v vs) : ∀ g, v.ownBlock = some g → base ≤ g ∧ g < w.heap.size := fun g hg => h.row.lt g hg
/-- Apart they stay, as one grows. -/
theorem Lies.ne {w : World} {v v' : Value} (h : Lies w v v') {g : Nat} (hlt : g < w.heap.size) (hne : v.ownBlock ≠ some g) : v'.ownBlock ≠ some g := by
  rcases h with h | h
  · rw [h]; exact hne
  · rw [h]; intro e; injection e with e; omega

theorem goInt_is (n : Nat) (h : n ≤ 100000) : goInt n = .int .i64 (n : Nat) := by
  unfold goInt
  first | rfl | (congr 1; rw [IntKind.wrap_i64]; omega)
theorem zcells (T : TypeId) (z : Value) (n : Nat) : madeCells #[z] n = (List.replicate n z).toArray := by
  apply Array.toList_inj.1
  rw [toList_madeCells_one]
/-- make([]string, n). -/
theorem make_str (w : World) (n : Nat) (h : n ≤ 100000) : (Instr.makeSlice 23 (.int .i64 (n : Nat)) (.int .i64 (n : Nat))).run Try.prog w = .ok (.slice (some ⟨w.heap.size, 0, none⟩) n n) (w.alloc (.cells (List.replicate n (Value.string ByteArray.empty)).toArray 9)) := by
  rw [run_make_row' 23 9 (.string ByteArray.empty) 16 Try.underlying23 strInfo rfl .i64 .i64 n (by omega) (by omega) w, zcells 9]
/-- As many texts laid over them. -/
theorem copy_str (w : World) (ty : TypeId) (a : Option Addr) (n c : Nat) (vs : List Value) (hy : Sl w a n c vs) (hn : n ≤ 100000) :
    (Builtin.copy_ #[23, 23] ty #[.slice (some ⟨w.heap.size, 0, none⟩) n n, .slice a n c]).run Try.prog (w.alloc (.cells (List.replicate n (Value.string ByteArray.empty)).toArray 9)) = .ok (.int .i64 (n : Nat)) (w.alloc (.cells vs.toArray 9)) := by
  have hl := hy.len
  rcases Nat.eq_zero_or_pos n with rfl | mp
  · obtain rfl : vs = [] := List.length_eq_zero_iff.1 hl
    rw [run_copy_none (P := Try.prog) _ 23 23 ty 9 _ _ 0 0 0 c Try.underlying23 strSz rfl]
    exact congrArg (fun v => Result.ok v (w.alloc (.cells (List.replicate 0 (Value.string ByteArray.empty)).toArray 9))) (goInt_is 0 (by decide))
  · obtain ⟨b, o, rfl, h2⟩ := hy.at mp
    have hlt : b < w.heap.size := hy.old mp _ rfl
    rw [run_copy_row Try.prog _ 23 23 ty 9 w.heap.size 0 n n ⟨b, o, none⟩ n c (List.replicate n (Value.string ByteArray.empty)).toArray 9 vs Try.underlying23 strSz (heap_alloc_new w _) (by rw [hl]; show n = min n n; omega) ?_ (by simp [hl]) hy.one]
    · rw [World.setRow_alloc_new, hl, goInt_is n hn]
      have e1 : (List.replicate n (Value.string ByteArray.empty)).toArray.toList.take 0 ++ vs ++ (List.replicate n (Value.string ByteArray.empty)).toArray.toList.drop (0 + n) = vs := by simp
      rw [e1]
    · intro j v hv
      have hp : (⟨b, o, none⟩ : Addr).add j = ⟨b, o + j, none⟩ := Addr.add_mid b o j
      rw [hp, World.cell?_alloc_lt _ _ _ hlt]
      exact h2 j v hv
/-- A whole new block is owned. -/
theorem ow_new (w : World) (T : TypeId) (vs : List Value) (h1 : ∀ u ∈ vs, u.oneCell' = true) (hm : vs.length ≤ 100000) : Ow (w.alloc (.cells vs.toArray T)) T w.heap.size (.slice (some ⟨w.heap.size, 0, none⟩) vs.length vs.length) vs :=
  ⟨⟨by simp, .inr ⟨w.heap.size, vs.length, vs.toArray, rfl, Nat.le_refl _, heap_alloc_new w _, Nat.le_refl _, by unfold maxLen; omega, by simp, by simp⟩⟩, h1⟩

end Go.Proofs.Ytfedcghkohfhlaa
