/- The walks over the reference's disk, on: NewDisk. -/
import Derived.Test.YtblmfkdcahhhbaaDoorK2
namespace Go.Proofs.YtblmfkdcahhhbaaDoor
open Go.RowKit
set_option linter.unusedVariables false
set_option linter.unusedSimpArgs false

theorem strInfo : (Tryd.prog.info? 9).map (fun i => (i.zero, i.size, i.bytes)) = some (some (.string ByteArray.empty), 1, 16) := by kernel_rfl
def zs64 : ByteArray := strOfNums zero64
/-- The reference's disk in the making: so many sectors are there. -/
structure Mk (w wr : World) (v : Value) (k : Nat) : Prop where
  c0 : wr.cell? ⟨w.heap.size, 0, none⟩ = some v
  own : wr.ownsRow (w.heap.size + 1) 9 1 v k (List.replicate k (.string zs64))
  c1 : wr.cell? ⟨w.heap.size, 1, none⟩ = some (.bool false)
  c2 : wr.cell? ⟨w.heap.size, 2, none⟩ = some (.int .i64 0)
  c3 : wr.cell? ⟨w.heap.size, 3, none⟩ = some (.int .i64 0)
  c4 : wr.cell? ⟨w.heap.size, 4, none⟩ = some (.int .i64 0)
  c5 : wr.cell? ⟨w.heap.size, 5, none⟩ = some (.int .i64 1)
  fp : ∀ o, wr.frozen? ⟨w.heap.size, o, none⟩ = false
  b : Below w.heap.size w wr
  sz : w.heap.size + 1 ≤ wr.heap.size
theorem grown_set (w : World) (p o : Nat) (v : Value) : w.grownBy (w.setCell ⟨p, o, none⟩ v) (some p) :=
  ⟨rfl, rfl, rfl, by simp, fun k _ hk => Below.heap_setCell w ⟨p, o, none⟩ v k (fun e => hk (by rw [e]))⟩
theorem Mk.ne {w wr : World} {v : Value} {k : Nat} (h : Mk w wr v k) : some w.heap.size ≠ v.ownBlock := fun e => by
  have := (h.own.lt _ e.symm).1
  omega
theorem Mk.far {w wr W w1 : World} {v : Value} {k : Nat} (h : Mk w wr v k) (hb : Below wr.heap.size wr W) (hg : W.grownBy w1 v.ownBlock) : w1.heap[w.heap.size]? = wr.heap[w.heap.size]? := by
  rw [hg.block _ (Nat.lt_of_lt_of_le h.sz hb.size) h.ne, hb.block _ h.sz]
theorem Mk.head {w wr W w1 : World} {v : Value} {k : Nat} (h : Mk w wr v k) (hb : Below wr.heap.size wr W) (hg : W.grownBy w1 v.ownBlock) : w1.cell? ⟨w.heap.size, 0, none⟩ = some v ∧ w1.frozen? ⟨w.heap.size, 0, none⟩ = false :=
  ⟨(World.cell?_of_block (w := wr) (a := ⟨w.heap.size, 0, none⟩) (h.far hb hg)).trans h.c0, (World.frozen?_of_block (w := wr) (a := ⟨w.heap.size, 0, none⟩) (h.far hb hg)).trans (h.fp 0)⟩
theorem Mk.next {w wr W w1 : World} {v v' : Value} {k : Nat} (h : Mk w wr v k) (hb : Below wr.heap.size wr W) (hg : W.grownBy w1 v.ownBlock) (ho : w1.ownsRow (w.heap.size + 1) 9 1 v' (k + 1) (List.replicate k (.string zs64) ++ [.string zs64])) :
    Mk w (w1.setCell ⟨w.heap.size, 0, none⟩ v') v' (k + 1) := by
  have hp := h.far hb hg
  have cp : ∀ o, w1.cell? ⟨w.heap.size, o, none⟩ = wr.cell? ⟨w.heap.size, o, none⟩ := fun o => World.cell?_of_block (w := wr) (a := ⟨w.heap.size, o, none⟩) hp
  have bb : Below w.heap.size w w1 := (h.b.trans (hb.mono (by have := h.sz; omega))).grown hg (by have := h.sz; have := hb.size; omega) (fun j hj => by have := (h.own.lt j hj).1; omega)
  refine ⟨World.cell?_setCell_same _ _ _ ((cp 0).trans h.c0), ?_, by rw [cell_set_ne _ (by decide), cp]; exact h.c1, by rw [cell_set_ne _ (by decide), cp]; exact h.c2, by rw [cell_set_ne _ (by decide), cp]; exact h.c3, by rw [cell_set_ne _ (by decide), cp]; exact h.c4, by rw [cell_set_ne _ (by decide), cp]; exact h.c5, fun o => ?_, bb.setCell (Nat.le_refl _) _, ?_⟩
  · rw [List.replicate_succ']
    refine ho.kept (grown_set w1 w.heap.size 0 v') (Or.inr fun e => ?_)
    have := (ho.lt _ e).1
    omega
  · rw [World.frozen?_setCell, World.frozen?_of_block (w := wr) (a := ⟨w.heap.size, o, none⟩) hp]; exact h.fp o
  · have := h.sz
    have := hb.size
    have := hg.size
    simp; omega
theorem Mk.done {w wr : World} {v : Value} {n : Nat} (h : Mk w wr v n) (hn : 0 < n) : ∃ q, Kk wr w.heap.size q n fresh ∧ w.heap.size ≤ q := by
  have hh := h.own
  rcases h.own.2 with ⟨-, rfl⟩ | ⟨g, cap, cur, rfl, hb, hg, hnc, hm, hs, ht⟩
  · omega
  · refine ⟨g, ⟨⟨cap, h.c0, hnc, hm⟩, h.c1, h.c2, ⟨0, h.c3, fun e => absurd rfl e⟩, h.c4, h.c5, fun i hi => ?_, h.fp, fun o => frozen_of_row _ _ _ _ _ hg, by omega, fresh_ok, hn⟩, by omega⟩
    have e := hh.cells (g := g) rfl i (.string zs64) (by rw [List.getElem?_replicate, if_pos hi])
    rw [Addr.add_mid, Nat.zero_add] at e
    exact e
theorem app_news (w : World) (Z : Obj) (z : ByteArray) : ∀ j u, [Value.string z][j]? = some u → ((w.alloc Z).alloc (.cells #[.string z] 9)).drew.cell? ((⟨w.heap.size + 1, 0, none⟩ : Addr).add j) = some u := fun j u hu => by
  have e : (w.alloc Z).heap.size = w.heap.size + 1 := by simp
  rw [← e]
  exact World.news_of_block (w := ((w.alloc Z).alloc (.cells #[.string z] 9)).drew) (heap_alloc_last (w.alloc Z) _) j u hu
theorem below2 (w : World) (Z S : Obj) : Below w.heap.size w ((w.alloc Z).alloc S).drew := (((Below.refl _ _).alloc (Nat.le_refl _) _).alloc (by simp) _).drew

set_option maxRecDepth 100000 in
set_option maxHeartbeats 4000000 in
theorem NewDisk_any (n : Nat) (w : World) (h1 : 1 ≤ n) (h2 : n ≤ 64) : Calls Tryd.prog 15 #[.int .i64 (n : Nat)] w fun e w' => ∃ q, e = .returned (.pointer (some ⟨w.heap.size, 0, none⟩)) ∧ Kk w' w.heap.size q n fresh ∧ w.heap.size ≤ q ∧ Below w.heap.size w w' := by
  have ZR : Hid (∀ W, Calls Tryd.prog 39 #[.int .i64 64] W fun e w' => e = .returned (.string zs64) ∧ W.alloc (.cells (vals zero64).toArray 5) = w') := fun W => zeros_any 64 W (by decide)
  obtain ⟨i0, hi, hz0, hz1, hz2⟩ := info_parts strInfo
  have T0 : Hid (Mk w (w.alloc (.cells #[.slice none 0 0, .bool false, .int .i64 0, .int .i64 0, .int .i64 0, .int .i64 1] 86)) (.slice none 0 0) 0) := by
    have bp := heap_alloc_last w (.cells #[.slice none 0 0, .bool false, .int .i64 0, .int .i64 0, .int .i64 0, .int .i64 1] 86)
    exact ⟨by rw [cell_of_row _ _ _ _ _ _ bp]; rfl, World.ownsRow_nil _ _ _ _, by rw [cell_of_row _ _ _ _ _ _ bp]; rfl, by rw [cell_of_row _ _ _ _ _ _ bp]; rfl, by rw [cell_of_row _ _ _ _ _ _ bp]; rfl, by rw [cell_of_row _ _ _ _ _ _ bp]; rfl, by rw [cell_of_row _ _ _ _ _ _ bp]; rfl, fun o => frozen_of_row _ _ _ _ _ bp, allocB _ _, by simp⟩
  have h2' : (n : Int) ≤ 64 := by omega
  generalize hC : vals zero64 = C at *
  generalize hz : zs64 = z at *
  clear hC
  go_enter Tryd.func15, Tryd.ntmps15
  go_wp2_with fail
  go_loopg [4] n (fun g iv wr => ∃ (k : Nat) (v : Value), k ≤ n ∧ g = n - k ∧ iv = .int .i64 k ∧ Hid (Mk w wr v k))
  case atStart => exact ⟨0, _, Nat.zero_le _, rfl, rfl, T0.out⟩
  case round =>
    obtain ⟨k, v, hk, rfl, rfl, T⟩ := hrel
    by_cases qk : k < n
    · have qk' : (k : Int) < (n : Int) := by omega
      have c0 := T.out.c0
      have f0 := T.out.fp
      have hs0 := T.out.sz
      have OW : Hid (wr.ownsRow (w.heap.size + 1) 9 1 v k (List.replicate k (.string z))) := by rw [← hz]; exact T.out.own
      have hsz : w.heap.size < wr.heap.size := by omega
      go_wp2
      go_region_law (first | (refine step_append_lies _ (by rfl) (.tmp 16) (.tmp 18) 84 (by rfl) (w.heap.size + 1) 9 i0 _ 1 16 Tryd.underlying84 hi hz0 hz1 hz2 rfl (by decide) v k (List.replicate k (.string z)) (by rfl) ((OW.out.alloc _).alloc _) ⟨wr.heap.size + 1, 0, none⟩ 1 1 [.string z] (by rfl) rfl (app_news wr (.cells C.toArray 5) z) (fun u hu => by simp at hu; subst hu; rfl) (by decide) (by unfold maxLen; omega) (by omega) (by simp; omega) _ rfl ?_; intro g cap w1 hown hgrow hat hlt; obtain ⟨q1, q2⟩ := T.out.head (below2 wr (.cells C.toArray 5) (.cells #[.string z] 9)) hgrow; have NX : Hid _ := T.out.next (below2 wr (.cells C.toArray 5) (.cells #[.string z] 9)) hgrow (by rw [hz]; exact hown); clear hown hgrow hat hlt) | (go_simp; go_at_call 39; refine Calls.mono (ZR.out _) ?_; rintro e w1 ⟨rfl, rfl⟩))
      all_goals go_wp2
      all_goals
        go_roundg (n - (k + 1))
        case measure => omega
        case rel => exact ⟨k + 1, _, by omega, rfl, by go_num, NX.out⟩
    · obtain rfl : n = k := by omega
      go_wp2
      go_ret
      obtain ⟨q, d, hq⟩ := T.out.done h1
      exact ⟨q, rfl, d, hq, T.out.b⟩

end Go.Proofs.YtblmfkdcahhhbaaDoor
