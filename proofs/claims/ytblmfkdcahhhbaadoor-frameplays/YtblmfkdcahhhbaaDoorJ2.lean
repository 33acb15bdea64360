/- A disk and an area of a law's own; what the calls make of them. -/
import Derived.Test.YtblmfkdcahhhbaaDoorI3
import Derived.Test.YtblmfkdcahhhbaaDoorJ1
import Derived.Test.YtblmfkdcahhhbaaDoorEb
namespace Go.Proofs.YtblmfkdcahhhbaaDoor
open Go.RowKit
set_option linter.unusedVariables false
set_option linter.unusedSimpArgs false

structure Ad (w0 W : World) (pa p q N : Nat) (s : St) (ar : Ar) : Prop where
  d : Dk W p q N s
  am : ∃ v, Am W pa p ar v ∧ ∀ g, v.ownBlock = some g → w0.heap.size ≤ g ∧ g ≠ p ∧ g ≠ q
  ne : pa ≠ p ∧ pa ≠ q
  lo : w0.heap.size ≤ p ∧ w0.heap.size ≤ q ∧ w0.heap.size ≤ pa
  b : Below w0.heap.size w0 W
  ok : ArOk N ar
  pos : laidP ar.fs
  t0 : Tab w0
theorem Ad.tab {w0 W : World} {pa p q N : Nat} {s : St} {ar : Ar} (h : Ad w0 W pa p q N s ar) : Tab W := h.t0.next h.b
theorem Ad.inv {w0 W : World} {pa p q N : Nat} {s : St} {ar : Ar} (h : Ad w0 W pa p q N s ar) : InvD w0 p q N s W := ⟨h.d, h.b, h.lo.1, h.lo.2.1⟩
theorem Ad.below {w0 W W' : World} {pa p q N : Nat} {s : St} {ar : Ar} (h : Ad w0 W pa p q N s ar) (b : Below W.heap.size W W') : Ad w0 W' pa p q N s ar := by
  obtain ⟨v, a, k⟩ := h.am
  exact ⟨h.d.below b, ⟨v, a.below b, k⟩, h.ne, h.lo, nextB h.b b, h.ok, h.pos, h.t0⟩
theorem Ad.gr {w0 W W' : World} {pa p q N : Nat} {s s' : St} {ar : Ar} (h : Ad w0 W pa p q N s ar) (d : Dk W' p q N s') (g : Gr p q W W') : Ad w0 W' pa p q N s' ar := by
  obtain ⟨v, a, k⟩ := h.am
  refine ⟨d, ⟨v, a.kept (g.block pa a.lt h.ne.1 h.ne.2) (fun x hx => g.block x (owns_lt a.own hx).1 (k x hx).2.1 (k x hx).2.2), k⟩, h.ne, h.lo, (h.inv.gr d g).b, h.ok, h.pos, h.t0⟩
theorem Below.ch {w0 W W' : World} {S : List Nat} (b : Below w0.heap.size w0 W) (c : Ch1 S W W') (h : ∀ x ∈ S, w0.heap.size ≤ x) : Below w0.heap.size w0 W' :=
  ⟨c.os.trans b.os, c.tape.trans b.tape, c.output.trans b.output, Nat.le_trans b.size c.size, fun k hk => (c.block k (by have := b.size; omega) (fun hm => by have := h k hm; omega)).trans (b.block k hk)⟩
theorem Ad.beginAt {w0 W : World} {pa p q N : Nat} {s : St} {ar : Ar} (h : Ad w0 W pa p q N s ar) (l : Nat) (hl : l < 18446744073709551616) :
    Calls Tryd.prog 18 #[.pointer (some ⟨pa, 0, none⟩), .int .u64 (l : Nat)] W fun e W' => e = .returned (.tuple #[]) ∧ Ad w0 W' pa p q N s { ar with life := l, fs := [] } := by
  obtain ⟨v, a, k⟩ := h.am
  refine (Begin_any W pa p l ar v a).mono ?_
  rintro e W' ⟨rfl, a', c⟩
  have np := h.ne
  have nl := h.lo
  exact ⟨rfl, h.d.kept (c.block p h.d.ltp (by simp; omega)) (c.block q h.d.ltq (by simp; omega)), ⟨_, a', fun g hg => by simp [Value.ownBlock] at hg⟩, np, nl, Below.ch h.b c (fun x hx => by simp at hx; omega), ⟨Nat.zero_le _, h.ok.far, h.ok.big, hl, h.ok.liv⟩, laidP_nil, h.t0⟩
theorem ArOk.addG {N : Nat} {s : St} {ar : Ar} (h : ArOk N ar) (k : Int) (b : List Int) : ArOk N (addG N s ar k b).a := by
  unfold Go.Proofs.YtblmfkdcahhhbaaDoor.addG
  split
  · exact h
  · split
    · exact h
    · split
      · exact h
      · split
        · refine ⟨?_, h.far, h.big, h.lif, h.liv⟩
          show used (ar.fs ++ [_]) ≤ ar.count
          rw [used_snoc]
          have := h.fit
          show used ar.fs + fsize b.length ≤ ar.count
          omega
        · exact h
theorem Ad.addAt {w0 W : World} {pa p q N : Nat} {s : St} {ar : Ar} (h : Ad w0 W pa p q N s ar) (kd : Int) (hk : 0 ≤ kd ∧ kd < 256) (a : Option Addr) (m c : Nat) (bs : List Int) (y : By W a m c bs) (hw : s.writes ≤ 900000) :
    Calls Tryd.prog 10 #[.pointer (some ⟨pa, 0, none⟩), .int .u8 kd, .slice a m c] W fun e W' => e = .returned (.tuple #[.int .i64 (addG N s ar kd bs).pos, .int .i64 (addG N s ar kd bs).err]) ∧ Ad w0 W' pa p q N (addG N s ar kd bs).s (addG N s ar kd bs).a := by
  obtain ⟨v, am, k⟩ := h.am
  refine (Add_any W pa p q N s ar v am h.d h.ok h.tab kd hk a m c bs y hw h.ne (fun g hg => (k g hg).2)).mono ?_
  rintro e W' ⟨rfl, d, ⟨v', am', ow⟩, ch⟩
  have nl := h.lo
  refine ⟨rfl, d, ⟨v', am', fun g hg => ?_⟩, h.ne, h.lo, Below.ch h.b ch (fun x hx => ?_), h.ok.addG kd bs, laidP_addG h.pos, h.t0⟩
  · rcases ow with e | ⟨g', e, le⟩
    · exact k g (by rw [← e]; exact hg)
    · rw [e] at hg; cases hg
      have := h.d.ltp; have := h.d.ltq; have := h.b.size
      omega
  · rcases List.mem_cons.1 hx with e | hx
    · omega
    rcases List.mem_cons.1 hx with e | hx
    · omega
    rcases List.mem_cons.1 hx with e | hx
    · omega
    · exact (k x (vb_mem.1 hx)).1
theorem InvD.openAt {w0 W : World} {p q N : Nat} {s : St} (h : InvD w0 p q N s W) (t : Tab w0) (fi co : Nat) (hn : N ≤ 4096) (h1 : 1 ≤ co) (h2 : fi + co ≤ N) (on : s.on = true) (hv : s.lives ≤ 1000000) :
    Calls Tryd.prog 9 #[.pointer (some ⟨p, 0, none⟩), .int .i64 (fi : Nat), .int .i64 (co : Nat)] W fun e W' => ∃ pa, e = .returned (.tuple #[.pointer (some ⟨pa, 0, none⟩), .int .i64 0]) ∧ Ad w0 W' pa p q N s (opn s fi co) ∧ Below W.heap.size W W' := by
  refine (Open_yes W p q N s h.d (t.next h.b) fi co hn h1 h2 on hv).mono ?_
  rintro e W' ⟨v, rfl, am, k, b⟩
  have := h.d.ltp
  have := h.d.ltq
  have := h.b.size
  exact ⟨_, rfl, ⟨h.d.below b, ⟨v, am, fun g hg => by have := k g hg; omega⟩, by omega, ⟨h.lp, h.lq, by omega⟩, nextB h.b b, opn_ok h.d.ok hn h2 hv, laidP_opn _ _ _, t⟩, b⟩
theorem Ad.allAt {w0 W : World} {pa p q N : Nat} {s : St} {ar : Ar} (h : Ad w0 W pa p q N s ar) :
    Calls Tryd.prog 26 #[.pointer (some ⟨pa, 0, none⟩)] W fun e W' => (∃ a cap, e = .returned (.slice a ar.fs.length cap) ∧ Ln W' a ar.fs.length cap (posI ar.fs)) ∧ Ad w0 W' pa p q N s ar ∧ Below W.heap.size W W' := by
  obtain ⟨v, am, k⟩ := h.am
  refine (All_any W pa p ar v am (by have := h.ok.len; omega)).mono ?_
  rintro e W' ⟨r, b⟩
  exact ⟨r, h.below b, b⟩
theorem Ad.getAt {w0 W : World} {pa p q N : Nat} {s : St} {ar : Ar} (h : Ad w0 W pa p q N s ar) (i : Nat) (hi : i < ar.fs.length) :
    Calls Tryd.prog 11 #[.pointer (some ⟨pa, 0, none⟩), .int .i64 ((ar.fs[i]).pos : Nat)] W fun e W' => GtP W (gotG s ar i (ar.fs[i]).pos) e W' ∧ Ad w0 W' pa p q N s ar := by
  obtain ⟨v, am, k⟩ := h.am
  exact (Get_some W pa p q N s ar v am h.d h.ok h.tab h.pos i hi).mono fun e W' g => ⟨g, h.below g.bel⟩
theorem Ad.getIs {w0 W : World} {pa p q N : Nat} {s : St} {ar : Ar} (h : Ad w0 W pa p q N s ar) (i : Nat) (hi : i < ar.fs.length) {x : Nat} (hx : (ar.fs[i]).pos = x) {r : Gt} (hr : gotG s ar i x = r) :
    Calls Tryd.prog 11 #[.pointer (some ⟨pa, 0, none⟩), .int .i64 (x : Nat)] W fun e W' => GtP W r e W' ∧ Ad w0 W' pa p q N s ar := by
  subst hx; subst hr; exact h.getAt i hi
theorem Ad.getNo {w0 W : World} {pa p q N : Nat} {s : St} {ar : Ar} (h : Ad w0 W pa p q N s ar) (x : Int) (hx : ∀ i (hi : i < ar.fs.length), ((ar.fs[i]).pos : Int) ≠ x) :
    Calls Tryd.prog 11 #[.pointer (some ⟨pa, 0, none⟩), .int .i64 x] W fun e W' => GtP W ⟨0, [], 5⟩ e W' ∧ Ad w0 W' pa p q N s ar := by
  obtain ⟨v, am, k⟩ := h.am
  exact (Get_none W pa p ar v am h.pos (by have := h.ok.len; omega) x hx).mono fun e W' g => ⟨g, h.below g.bel⟩
theorem Ad.roomAt {w0 W : World} {pa p q N : Nat} {s : St} {ar : Ar} (h : Ad w0 W pa p q N s ar) :
    Calls Tryd.prog 27 #[.pointer (some ⟨pa, 0, none⟩)] W fun e W' => e = .returned (.int .i64 ((ar.count - used ar.fs : Nat) : Nat)) ∧ Ad w0 W' pa p q N s ar ∧ Below W.heap.size W W' := by
  obtain ⟨v, am, k⟩ := h.am
  refine (Room_any W pa p N ar v am h.ok).mono ?_
  rintro e W' ⟨rfl, j, rfl⟩
  exact ⟨rfl, h.below (drewB (Below.refl _ _) j), drewB (Below.refl _ _) j⟩
theorem Ad.lifeAt {w0 W : World} {pa p q N : Nat} {s : St} {ar : Ar} (h : Ad w0 W pa p q N s ar) :
    Calls Tryd.prog 28 #[.pointer (some ⟨pa, 0, none⟩)] W fun e W' => e = .returned (.int .u64 (ar.life : Nat)) ∧ W = W' := by
  obtain ⟨v, am, k⟩ := h.am
  exact Life_any W pa p ar v am

/-- What Add makes where nothing stops it. -/
theorem addG_well {N : Nat} {s : St} {ar : Ar} {kd : Int} {b : List Int} (ok : ArOk N ar) (hb : b.length ≤ 1000) (hl : s.lives = ar.lives) (on : s.on = true) (hr : fsize b.length ≤ ar.count - used ar.fs) (hf : s.left = 0 ∨ fsize b.length < s.left) :
    addG N s ar kd b = ⟨(used ar.fs : Nat), 0, { s with sec := over s.sec (ar.first + used ar.fs) 0 (fsize b.length) (fsec kd ar.life ar.fs.length b), writes := s.writes + fsize b.length, left := s.left - fsize b.length }, { ar with fs := ar.fs ++ [⟨used ar.fs, kd, b⟩] }⟩ := by
  have e : addW N s ar kd b = (0, { s with sec := over s.sec (ar.first + used ar.fs) 0 (fsize b.length) (fsec kd ar.life ar.fs.length b), writes := s.writes + fsize b.length, left := s.left - fsize b.length }) :=
    wrs_well on (fsec_len kd ar.life ar.fs.length b) (by have := ok.fit; have := ok.far; omega) hf
  rw [addG_good hb hl hr (by rw [e]), e]
theorem addG_stop {N : Nat} {s : St} {ar : Ar} {kd : Int} {b : List Int} (ok : ArOk N ar) (hb : b.length ≤ 1000) (hl : s.lives = ar.lives) (on : s.on = true) (hr : fsize b.length ≤ ar.count - used ar.fs) (h1 : 1 ≤ s.left) (h2 : s.left ≤ fsize b.length) :
    addG N s ar kd b = ⟨0, 4, { s with sec := over s.sec (ar.first + used ar.fs) (if s.late = true then fsize b.length - s.left else fsize b.length - s.left + 1) (fsize b.length) (fsec kd ar.life ar.fs.length b), writes := s.writes + (s.left - 1), on := false, left := 0 }, ar⟩ := by
  have e : addW N s ar kd b = (4, { s with sec := over s.sec (ar.first + used ar.fs) (if s.late = true then fsize b.length - s.left else fsize b.length - s.left + 1) (fsize b.length) (fsec kd ar.life ar.fs.length b), writes := s.writes + (s.left - 1), on := false, left := 0 }) :=
    wrs_stop on (fsec_len kd ar.life ar.fs.length b) (by have := ok.fit; have := ok.far; omega) h1 h2
  rw [addG_bad hb hl hr (by rw [e]; show (4 : Int) ≠ 0; decide), e]
theorem Laid.add {sec : Nat → List Int} {first life : Nat} {fs : List Fa} (h : Laid sec first life fs) (kd : Int) (b : List Int) (hb : b.length ≤ 1000) : Laid (over sec (first + used fs) 0 (fsize b.length) (fsec kd life fs.length b)) first life (fs ++ [⟨used fs, kd, b⟩]) :=
  (h.congr (fun j hj => over_off (by omega))).snoc rfl (over_lies _ _ _ _ _ _) hb

end Go.Proofs.YtblmfkdcahhhbaaDoor
