/- The walks over the law's own functions: great, same. -/
import Derived.Test.YtfedcghkohfhlaaT2
namespace Go.Proofs.Ytfedcghkohfhlaa
open Go.RowKit
set_option linter.unusedVariables false
set_option linter.unusedSimpArgs false

/-- Texts that may be read: what the row says of each. -/
def Short (ss : List ByteArray) : Prop := ∀ i, (kAt ss i).size ≤ 140737488351232
/-- A page that is asked of. -/
structure Small (p : Pg) : Prop where
  keys : p.keys.length ≤ 60
  vals : p.vals.length ≤ 60
  kids : p.kids.length ≤ 60
  tot : tot p.keys + tot p.vals ≤ 9000

/-- What great answers. -/
def GrP (p : Pg) (e : Ending) : Prop := ∃ b, e = .returned (.bool b) ∧ (b = false → Small p)

set_option maxRecDepth 100000 in
set_option maxHeartbeats 8000000 in
theorem great_any (v : Value) (p : Pg) (w : World) (h : Pv w v p) (hs1 : Short p.keys) (hs2 : Short p.vals) :
    Calls Try.prog 13 #[v] w fun e w' => GrP p e ∧ Below w.heap.size w w' := by
  obtain ⟨ka, kn, kc, va, vn, vc, ia, im, ic, rfl, h1, h2, h3⟩ := h.ex
  obtain ⟨lf, ks, vs, is⟩ := p
  simp only at h1 h2 h3 hs1 hs2
  have l1 := h1.slen
  have l2 := h2.slen
  have l3 := h3.klen
  have m1 := h1.max
  have m1' := h1.fits
  have m2 := h2.max
  have m2' := h2.fits
  have m3 := h3.max
  have m3' := h3.fits
  unfold maxLen at m1 m2 m3
  have g0 : Hid (∀ t, GI w w.heap.size lf ka kn kc va vn vc ia im ic ks vs is (w.alloc (.cells #[.bool lf, .slice ka kn kc, .slice va vn vc, .slice ia im ic] t))) := fun t => GI.new h1 h2 h3 t
  have LL : Hid _ := And.intro l1 (And.intro l2 l3)
  have SS : Hid _ := And.intro hs1 hs2
  clear h h1 h2 h3 hs1 hs2 l1 l2 l3
  by_cases c1 : 60 < kn
  · have c1' : (60 : Int) < (kn : Int) := by omega
    go_enter Try.func13, Try.ntmps13
    go_wp2
    go_ret
    exact ⟨⟨true, rfl, fun e => by cases e⟩, (g0.out _).bel⟩
  have c1' : ¬ (60 : Int) < (kn : Int) := by omega
  by_cases c2 : 60 < vn
  · have c2' : (60 : Int) < (vn : Int) := by omega
    go_enter Try.func13, Try.ntmps13
    go_wp2
    go_ret
    exact ⟨⟨true, rfl, fun e => by cases e⟩, (g0.out _).bel⟩
  have c2' : ¬ (60 : Int) < (vn : Int) := by omega
  by_cases c3 : 60 < im
  · have c3' : (60 : Int) < (im : Int) := by omega
    go_enter Try.func13, Try.ntmps13
    go_wp2
    go_ret
    exact ⟨⟨true, rfl, fun e => by cases e⟩, (g0.out _).bel⟩
  have c3' : ¬ (60 : Int) < (im : Int) := by omega
  go_enter Try.func13, Try.ntmps13
  go_wp2_with fail
  go_loopg [3, 4] kn (fun g nv iv wr => ∃ k t : Nat, k ≤ kn ∧ g = kn - k ∧ iv = .int .i64 (k : Nat) ∧ nv = .int .i64 (t : Nat) ∧ t ≤ 9000 ∧ Hid (t = tot (ks.take k)) ∧ Hid (GI w w.heap.size lf ka kn kc va vn vc ia im ic ks vs is wr))
  case atStart => exact ⟨0, 0, Nat.zero_le _, rfl, rfl, rfl, by omega, by simp [tot, Hid], g0.out _⟩
  case round =>
    obtain ⟨k, t, hk, rfl, rfl, rfl, ht, hT, hG⟩ := hrel
    have x1 := hG.out.box.a1
    have x2 := hG.out.box.a2
    by_cases c : k < kn
    · have c' : (k : Int) < (kn : Int) := by omega
      obtain ⟨b, o, rfl, _⟩ := hG.out.key.at (by omega)
      have e1 : wr.cell? ⟨b, o + k, none⟩ = some (.string (kAt ks k)) := hG.out.key.str c
      have sz := SS.out.1 k
      have TA : Hid (tot (ks.take (k + 1)) = t + (kAt ks k).size) := by
        show _ = _
        rw [tot_at (by have := LL.out.1; omega), ← hT.out]
      generalize kAt ks k = s at *
      by_cases c4 : 9000 < t + s.size
      · have c4' : (9000 : Int) < (t : Int) + (s.size : Int) := by omega
        go_wp2
        go_ret
        exact ⟨⟨true, rfl, fun e => by cases e⟩, hG.out.bel⟩
      · have c4' : ¬ (9000 : Int) < (t : Int) + (s.size : Int) := by omega
        go_wp2
        go_roundg (kn - (k + 1))
        case measure => omega
        case rel => exact ⟨k + 1, t + s.size, by omega, rfl, by go_num, by go_num, by omega, TA.out.symm, hG.out⟩
    · obtain rfl : kn = k := by omega
      have TK : Hid (t = tot ks) := by
        show _ = _
        rw [hT.out, List.take_of_length_le (by have := LL.out.1; omega)]
      clear hT
      go_wp2_with fail
      go_loopg [3, 5] vn (fun g nv iv wr => ∃ k t : Nat, k ≤ vn ∧ g = vn - k ∧ iv = .int .i64 (k : Nat) ∧ nv = .int .i64 (t : Nat) ∧ t ≤ 9000 ∧ Hid (t = tot ks + tot (vs.take k)) ∧ Hid (GI w w.heap.size lf ka kn kc va vn vc ia im ic ks vs is wr))
      case atStart => exact ⟨0, t, Nat.zero_le _, rfl, rfl, rfl, by omega, by have := TK.out; simpa [tot, Hid] using this, hG.out⟩
      case round =>
        clear x1 x2 hG
        clear TK ht
        obtain ⟨k, t, hk, rfl, rfl, rfl, ht, hT, hG⟩ := hrel
        have x1 := hG.out.box.a1
        have x2 := hG.out.box.a2
        by_cases c : k < vn
        · have c' : (k : Int) < (vn : Int) := by omega
          obtain ⟨b, o, rfl, _⟩ := hG.out.val.at (by omega)
          have e1 : wr.cell? ⟨b, o + k, none⟩ = some (.string (kAt vs k)) := hG.out.val.str c
          have sz := SS.out.2 k
          have TA : Hid (tot ks + tot (vs.take (k + 1)) = t + (kAt vs k).size) := by
            show _ = _
            rw [tot_at (by have := LL.out.2.1; omega), hT.out]; omega
          generalize kAt vs k = s at *
          by_cases c4 : 9000 < t + s.size
          · have c4' : (9000 : Int) < (t : Int) + (s.size : Int) := by omega
            go_wp2
            go_ret
            exact ⟨⟨true, rfl, fun e => by cases e⟩, hG.out.bel⟩
          · have c4' : ¬ (9000 : Int) < (t : Int) + (s.size : Int) := by omega
            go_wp2
            go_roundg (vn - (k + 1))
            case measure => omega
            case rel => exact ⟨k + 1, t + s.size, by omega, rfl, by go_num, by go_num, by omega, TA.out.symm, hG.out⟩
        · obtain rfl : vn = k := by omega
          have S : Hid (Small ⟨lf, ks, vs, is⟩) := by
            have q := hT.out
            rw [List.take_of_length_le (by have := LL.out.2.1; omega)] at q
            have := LL.out
            exact ⟨by simp only; omega, by simp only; omega, by simp only; omega, by simp only; omega⟩
          go_wp2
          go_ret
          exact ⟨⟨false, rfl, fun _ => S.out⟩, hG.out.bel⟩

/-- Two pages in their boxes. -/
structure G2 (w : World) (b1 b2 : Nat) (lf : Bool) (ka : Option Addr) (kn kc : Nat) (va : Option Addr) (vn vc : Nat) (ia : Option Addr) (im ic : Nat) (ka' : Option Addr) (kc' : Nat) (va' : Option Addr) (vc' : Nat) (ia' : Option Addr) (ic' : Nat) (ks vs : List ByteArray) (is : List Nat) (wr : World) : Prop where
  one : GI w b1 lf ka kn kc va vn vc ia im ic ks vs is wr
  two : GI w b2 lf ka' kn kc' va' vn vc' ia' im ic' ks vs is wr
theorem G2.below {w : World} {b1 b2 : Nat} {lf : Bool} {ka : Option Addr} {kn kc : Nat} {va : Option Addr} {vn vc : Nat} {ia : Option Addr} {im ic : Nat} {ka' : Option Addr} {kc' : Nat} {va' : Option Addr} {vc' : Nat} {ia' : Option Addr} {ic' : Nat} {ks vs : List ByteArray} {is : List Nat} {wr w2 : World}
    (h : G2 w b1 b2 lf ka kn kc va vn vc ia im ic ka' kc' va' vc' ia' ic' ks vs is wr) (b : Below wr.heap.size wr w2) : G2 w b1 b2 lf ka kn kc va vn vc ia im ic ka' kc' va' vc' ia' ic' ks vs is w2 := ⟨h.one.below b, h.two.below b⟩

set_option maxRecDepth 100000 in
set_option maxHeartbeats 8000000 in
/-- Two pages that are one. -/
theorem same_any (v u : Value) (p : Pg) (w : World) (h : Pv w v p) (h' : Pv w u p) (f : Bd p) :
    Calls Try.prog 19 #[v, u] w fun e w' => e = .returned (.bool true) ∧ Below w.heap.size w w' := by
  obtain ⟨ka, kn, kc, va, vn, vc, ia, im, ic, rfl, h1, h2, h3⟩ := h.ex
  obtain ⟨ka', kn', kc', va', vn', vc', ia', im', ic', rfl, h1', h2', h3'⟩ := h'.ex
  obtain ⟨lf, ks, vs, is⟩ := p
  simp only at h1 h2 h3 h1' h2' h3'
  have l1 := h1.slen
  have l2 := h2.slen
  have l3 := h3.klen
  have b1 := f.keys
  have b2 := f.vals
  have b3 := f.kids
  simp only at b1 b2 b3
  obtain rfl : kn = kn' := by rw [← l1, ← h1'.slen]
  obtain rfl : vn = vn' := by rw [← l2, ← h2'.slen]
  obtain rfl : im = im' := by rw [← l3, ← h3'.klen]
  have n1 : kn ≤ 90000 := by omega
  have n2 : vn ≤ 90000 := by omega
  have n3 : im ≤ 90001 := by omega
  have g0 : Hid (∀ t t', G2 w w.heap.size (w.heap.size + 1) lf ka kn kc va vn vc ia im ic ka' kc' va' vc' ia' ic' ks vs is ((w.alloc (.cells #[.bool lf, .slice ka kn kc, .slice va vn vc, .slice ia im ic] t)).alloc (.cells #[.bool lf, .slice ka' kn kc', .slice va' vn vc', .slice ia' im ic'] t'))) := fun t t' => by
    refine ⟨(GI.new h1 h2 h3 t).below (allocB _ _), ?_⟩
    have W := allocB w (.cells #[.bool lf, .slice ka kn kc, .slice va vn vc, .slice ia im ic] t)
    have q := GI.new (lf := lf) (h1'.below W) (h2'.below W) (h3'.below W) t'
    have s : (w.alloc (.cells #[.bool lf, .slice ka kn kc, .slice va vn vc, .slice ia im ic] t)).heap.size = w.heap.size + 1 := by simp
    rw [s] at q
    exact ⟨q.box, q.key, q.val, q.kid, nextB W (allocB _ _)⟩
  have q1 : (lf != lf) = false := by simp
  have q2 : ((kn : Int) != (kn : Int)) = false := by simp
  clear h h' h1 h2 h3 h1' h2' h3' f l1 l2 l3
  go_enter Try.func19, Try.ntmps19
  go_wp2_with fail
  go_loopg [5] kn (fun g iv wr => ∃ k : Nat, k ≤ kn ∧ g = kn - k ∧ iv = .int .i64 (k : Nat) ∧ Hid (G2 w w.heap.size (w.heap.size + 1) lf ka kn kc va vn vc ia im ic ka' kc' va' vc' ia' ic' ks vs is wr))
  case atStart => exact ⟨0, Nat.zero_le _, rfl, rfl, g0.out _ _⟩
  case round =>
    obtain ⟨k, hk, rfl, rfl, hG⟩ := hrel
    have x1 := hG.out.one.box.a1
    have x2 := hG.out.one.box.a2
    have x3 := hG.out.one.box.a3
    have y1 := hG.out.two.box.a1
    have y2 := hG.out.two.box.a2
    have y3 := hG.out.two.box.a3
    by_cases c : k < kn
    · have c' : (k : Int) < (kn : Int) := by omega
      obtain ⟨b, o, rfl, _⟩ := hG.out.one.key.at (by omega)
      obtain ⟨b', o', rfl, _⟩ := hG.out.two.key.at (by omega)
      have e1 := hG.out.one.key.str c
      have e2 := hG.out.two.key.str c
      generalize ks.getD k ByteArray.empty = s at *
      have q3 : (s.toList != s.toList) = false := by simp
      go_wp2_with fail
      go_quiet (fail)
      go_wp2
      go_roundg (kn - (k + 1))
      case measure => omega
      case rel => exact ⟨k + 1, by omega, rfl, by go_num, hG.out.below (drewB _ _)⟩
    · obtain rfl : kn = k := by omega
      go_wp2_with fail
      go_loopg [6] vn (fun g iv wr => ∃ k : Nat, k ≤ vn ∧ g = vn - k ∧ iv = .int .i64 (k : Nat) ∧ Hid (G2 w w.heap.size (w.heap.size + 1) lf ka kn kc va vn vc ia im ic ka' kc' va' vc' ia' ic' ks vs is wr))
      case atStart => exact ⟨0, Nat.zero_le _, rfl, rfl, hG.out⟩
      case round =>
        clear x1 x2 x3 y1 y2 y3 hG
        obtain ⟨k, hk, rfl, rfl, hG⟩ := hrel
        have x1 := hG.out.one.box.a1
        have x2 := hG.out.one.box.a2
        have x3 := hG.out.one.box.a3
        have y1 := hG.out.two.box.a1
        have y2 := hG.out.two.box.a2
        have y3 := hG.out.two.box.a3
        by_cases c : k < vn
        · have c' : (k : Int) < (vn : Int) := by omega
          obtain ⟨b, o, rfl, _⟩ := hG.out.one.val.at (by omega)
          obtain ⟨b', o', rfl, _⟩ := hG.out.two.val.at (by omega)
          have e1 := hG.out.one.val.str c
          have e2 := hG.out.two.val.str c
          generalize vs.getD k ByteArray.empty = s at *
          have q3 : (s.toList != s.toList) = false := by simp
          go_wp2_with fail
          go_quiet (fail)
          go_wp2
          go_roundg (vn - (k + 1))
          case measure => omega
          case rel => exact ⟨k + 1, by omega, rfl, by go_num, hG.out.below (drewB _ _)⟩
        · obtain rfl : vn = k := by omega
          go_wp2_with fail
          go_loopg [7] im (fun g iv wr => ∃ k : Nat, k ≤ im ∧ g = im - k ∧ iv = .int .i64 (k : Nat) ∧ Hid (G2 w w.heap.size (w.heap.size + 1) lf ka kn kc va vn vc ia im ic ka' kc' va' vc' ia' ic' ks vs is wr))
          case atStart => exact ⟨0, Nat.zero_le _, rfl, rfl, hG.out⟩
          case round =>
            clear x1 x2 x3 y1 y2 y3 hG
            obtain ⟨k, hk, rfl, rfl, hG⟩ := hrel
            have x1 := hG.out.one.box.a1
            have x2 := hG.out.one.box.a2
            have x3 := hG.out.one.box.a3
            have y1 := hG.out.two.box.a1
            have y2 := hG.out.two.box.a2
            have y3 := hG.out.two.box.a3
            by_cases c : k < im
            · have c' : (k : Int) < (im : Int) := by omega
              obtain ⟨b, o, rfl, _⟩ := hG.out.one.kid.at (by omega)
              obtain ⟨b', o', rfl, _⟩ := hG.out.two.kid.at (by omega)
              have e1 := hG.out.one.kid.num c
              have e2 := hG.out.two.kid.num c
              generalize is.getD k 0 = s at *
              have q3 : ((s : Int) != (s : Int)) = false := by simp
              go_wp2_with fail
              go_quiet (fail)
              go_wp2
              go_roundg (im - (k + 1))
              case measure => omega
              case rel => exact ⟨k + 1, by omega, rfl, by go_num, hG.out.below (drewB _ _)⟩
            · obtain rfl : im = k := by omega
              go_wp2
              go_ret
              exact ⟨rfl, hG.out.one.bel⟩

end Go.Proofs.Ytfedcghkohfhlaa
