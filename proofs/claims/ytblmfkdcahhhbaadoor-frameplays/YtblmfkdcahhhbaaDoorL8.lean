/- For FramePlays: the law's gets, Get of a place against what stands there; the law's acts in memory; new areas on both disks; a new life on both sides. -/
import Derived.Test.YtblmfkdcahhhbaaDoorL6
import Derived.Test.YtblmfkdcahhhbaaDoorJ4
import Derived.Test.YtblmfkdcahhhbaaDoorFb
namespace Go.Proofs.YtblmfkdcahhhbaaDoor
open Go.RowKit
set_option linter.unusedVariables false
set_option linter.unusedSimpArgs false

set_option maxRecDepth 100000 in
set_option maxHeartbeats 8000000 in
theorem gets_any (w0 w : World) (pa p q pb p' q' N : Nat) (s : St) (ar : Ar) (va vw : Value) (h : Duo w0 w pa p q pb p' q' N s ar va s ar vw) (x : Int) :
    Calls Tryd.prog 21 #[.pointer (some ⟨pa, 0, none⟩), .pointer (some ⟨pb, 0, none⟩), .int .i64 x] w fun e w' => e = .returned (.bool true) ∧ Below w.heap.size w w' := by
  have H : Hid _ := h
  obtain ⟨r, GT, RN, RS⟩ : ∃ r : Gt, Hid (Calls Tryd.prog 11 #[.pointer (some ⟨pa, 0, none⟩), .int .i64 x] w fun e w' => GtP w r e w') ∧ Hid ((∀ i (hi : i < ar.fs.length), ((ar.fs[i]).pos : Int) ≠ x) → r = ⟨0, [], 5⟩) ∧ Hid (∀ i (hi : i < ar.fs.length), ((ar.fs[i]).pos : Int) = x → r = gotG s ar i (ar.fs[i]).pos) := by
    by_cases ex : ∃ i, ∃ hi : i < ar.fs.length, ((ar.fs[i]).pos : Int) = x
    · obtain ⟨i, hi, rfl⟩ := ex
      refine ⟨gotG s ar i (ar.fs[i]).pos, Get_some w pa p q N s ar va h.am h.d h.ok h.tab h.pos i hi, fun c => absurd rfl (c i hi), fun j hj e => ?_⟩
      have : j = i := by
        rcases Nat.lt_trichotomy j i with c | c | c
        · have := h.pos.lt c hi; omega
        · exact c
        · have := h.pos.lt c hj; omega
      subst this
      rfl
    · exact ⟨⟨0, [], 5⟩, Get_none w pa p ar va h.am h.pos (by have := h.ok.len; omega) x (fun i hi e => ex ⟨i, hi, e⟩), fun _ => rfl, fun i hi e => absurd ⟨i, hi, e⟩ ex⟩
  have RA : Hid (¬ (s.lives = ar.lives ∧ s.on = true) → r.err ≠ 0 ∧ r.pay = []) := fun c => by
    by_cases ex : ∃ i, ∃ hi : i < ar.fs.length, ((ar.fs[i]).pos : Int) = x
    · obtain ⟨i, hi, e⟩ := ex
      rw [RS.out i hi e]
      by_cases h1 : s.lives = ar.lives
      · rw [gotG_off (by cases ho : s.on with | false => rfl | true => exact absurd ⟨h1, ho⟩ c)]; exact ⟨by show (4 : Int) ≠ 0; decide, rfl⟩
      · rw [gotG_over h1]; exact ⟨by show (4 : Int) ≠ 0; decide, rfl⟩
    · rw [RN.out (fun i hi e => ex ⟨i, hi, e⟩)]; exact ⟨by show (5 : Int) ≠ 0; decide, rfl⟩
  have fl : (ar.fs.length : Int) ≤ 4096 := by have := h.ok.len; omega
  clear h
  go_enter Tryd.func21, Tryd.ntmps21
  go_wp2_with fail
  refine Calls.mono GT.out ?_
  rintro e w1 ⟨⟨a, c, rfl, y, -⟩, b1⟩
  have B1 : Hid _ := b1
  have Y1 : Hid _ := y
  have H1 : Hid _ := H.out.below b1
  clear y b1 GT H
  obtain ⟨kd, py, er⟩ := r
  dsimp only at Y1 RA
  have c0 := H1.out.bm.c0
  have c5 := H1.out.bm.c5
  have d1 := H1.out.k.c1
  have d5 := H1.out.k.c5
  dsimp only
  go_upto_region 2 with fail
  go_cut [43] from 15 to 43 (fun sl wx => sl = .bool (decide (s.lives = ar.lives ∧ s.on = true)) ∧ ∃ j, wx = w1.drewN j)
  case first =>
    by_cases q1 : s.lives = ar.lives
    · have q1' : ((s.lives : Int) == (ar.lives : Int)) = true := by rw [beq_iff_eq]; omega
      cases ho : s.on with
      | true =>
        rw [ho] at d1
        have d1' : w1.cell? ⟨p', 1, none⟩ = some (.bool false) := d1
        have DC : Hid (decide (s.lives = ar.lives ∧ s.on = true) = true) := decide_eq_true ⟨q1, ho⟩
        clear q1 ho d1
        go_quiet (fail)
        go_wp2
        go_meet
        case rel => exact ⟨by rw [DC.out], _, rfl⟩
      | false =>
        rw [ho] at d1
        have d1' : w1.cell? ⟨p', 1, none⟩ = some (.bool true) := d1
        have DC : Hid (decide (s.lives = ar.lives ∧ s.on = true) = false) := decide_eq_false (fun c => by rw [ho] at c; cases c.2)
        clear q1 ho d1
        go_quiet (fail)
        go_wp2
        go_meet
        case rel => exact ⟨by rw [DC.out], _, rfl⟩
    · have q1' : ((s.lives : Int) == (ar.lives : Int)) = false := by rw [beq_eq_false_iff_ne]; omega
      have DC : Hid (decide (s.lives = ar.lives ∧ s.on = true) = false) := decide_eq_false (fun c => q1 c.1)
      clear q1
      go_quiet (fail)
      go_wp2
      go_meet
      case rel => exact ⟨by rw [DC.out], _, rfl⟩
  case rest =>
    obtain ⟨rfl, j, rfl⟩ := hcut
    have B2 : Hid (Below w.heap.size w (w1.drewN j)) := drewB B1.out j
    have Y2 : Hid (By (w1.drewN j) a py.length c py) := Y1.out.below (drewB (Below.refl _ _) j)
    have H2 : Hid _ := H1.out.below (drewB (Below.refl _ _) j)
    clear B1 Y1 H1 c0 c5 d1 d5
    generalize w1.drewN j = w2 at *
    by_cases cc : s.lives = ar.lives ∧ s.on = true
    · have dt : decide (s.lives = ar.lives ∧ s.on = true) = true := decide_eq_true cc
      rw [dt]
      have CC : Hid _ := cc
      clear dt cc RA
      obtain ⟨a2, cap2, rfl, f1, f2, f3, g2, h21, h22⟩ := H2.out.bm.form
      have G1 : Hid _ := h21
      have G2 : Hid _ := h22
      have c4 := H2.out.bm.c4
      have c3 := H2.out.bm.c3
      clear h21 h22 f1 f2 f3
      go_wp2_with fail
      go_loopg [10] ar.fs.length (fun g iv wr => ∃ k : Nat, k ≤ ar.fs.length ∧ g = ar.fs.length - k ∧ iv = .int .i64 (k : Nat) ∧ wr = w2 ∧ Hid (∀ i (hi : i < ar.fs.length), i < k → ((ar.fs[i]).pos : Int) ≠ x))
      case atStart => exact ⟨0, Nat.zero_le _, rfl, rfl, rfl, fun i hi c => absurd c (Nat.not_lt_zero _)⟩
      case round =>
        obtain ⟨k, hk, rfl, rfl, hw2, NO⟩ := hrel
        have hw2' := hw2.symm
        clear hw2
        subst hw2'
        by_cases qk : k < ar.fs.length
        · have qk' : (k : Int) < (ar.fs.length : Int) := by omega
          obtain rfl := G1.out (by omega)
          have m2 : w2.cell? ⟨g2, k * 3, none⟩ = some (.int .i64 ((ar.fs[k]).pos : Nat)) := (G2.out k qk).1
          by_cases qx : ((ar.fs[k]).pos : Int) = x
          · have RR : Hid _ := RS.out k qk qx
            have NW : Hid _ := BNow_any w2 pb p' q' N s ar _ H2.out.bm H2.out.k H2.out.ok (ar.fs[k]).pos
            have RM : Hid (∀ f, rdB s.sec (ar.first + (ar.fs[k]).pos) (ar.count - (ar.fs[k]).pos) = some f → _) := fun f hf => rdB_room H2.out.d.ok.len H2.out.d.ok.bys hf
            subst qx
            clear RS RN NO G2
            generalize (ar.fs[k]).pos = at_ at *
            go_wp2_with fail
            refine Calls.mono NW.out ?_
            rintro e w3 ⟨rn, ry, b3⟩
            have B3 : Hid _ := b3
            cases hr : rdB s.sec (ar.first + at_) (ar.count - at_) with
            | none =>
              obtain rfl := rn hr
              have e3 : (⟨kd, py, er⟩ : Gt) = ⟨0, [], 3⟩ := RR.out.trans (gotG_none CC.out.1 CC.out.2 hr)
              obtain ⟨rfl, rfl, rfl⟩ : kd = 0 ∧ py = [] ∧ er = 3 := by simpa using e3
              clear rn ry hr b3 RM e3 RR
              go_wp2
              go_ret
              exact ⟨rfl, nextB B2.out (nextB B3.out (allocB _ _))⟩
            | some f =>
              obtain rfl := ry f hr
              obtain ⟨r1, r2, r3, r4, r5, r6⟩ := RM.out f hr
              have GG := RR.out.trans (gotG_some (i := k) CC.out.1 CC.out.2 hr)
              obtain ⟨kf, lf, nm, pf⟩ := f
              have e3 : w3.cell? ⟨pb, 3, none⟩ = some (.int .u64 (ar.life : Nat)) := (b3.cell (p := ⟨pb, 3, none⟩) H2.out.bm.lt).trans c3
              have pl3 : pb < w3.heap.size := Nat.lt_of_lt_of_le H2.out.bm.lt b3.size
              have wk : IntKind.u64.wrap (k : Int) = (k : Int) := by rw [IntKind.wrap_u64]; omega
              have Y3 : Hid (∀ o, By (w3.alloc o) a py.length c py) := fun o => (Y2.out.below b3).below (allocB _ _)
              dsimp only at GG
              dsimp only
              clear rn ry hr b3 RM RR r1 r3 r4 r5 c3 c4 m2
              by_cases q1 : lf = ar.life
              · have q1' : ((lf : Int) != (ar.life : Int)) = false := by rw [bne_eq_false_iff_eq]; omega
                by_cases q2 : nm = k
                · have q2' : ((nm : Int) != (k : Int)) = false := by rw [bne_eq_false_iff_eq]; omega
                  rw [if_pos ⟨q1, q2⟩] at GG
                  obtain ⟨rfl, rfl, rfl⟩ : kd = kf ∧ py = pf ∧ er = 0 := by simpa using GG
                  have ST : ∀ o, (convert 32 9 (.slice a py.length c)).run Tryd.prog (w3.alloc o) = .ok (.string (strOfNums py)) (w3.alloc o) := fun o => (Y3.out o).str
                  clear GG q1 q2
                  generalize strOfNums py = sx at *
                  generalize py.length = m at *
                  go_wp2
                  go_ret
                  exact ⟨rfl, nextB B2.out (nextB B3.out (allocB _ _))⟩
                · have q2' : ((nm : Int) != (k : Int)) = true := by rw [bne_iff_ne]; omega
                  rw [if_neg (fun c => q2 c.2)] at GG
                  obtain ⟨rfl, rfl, rfl⟩ : kd = 0 ∧ py = [] ∧ er = 3 := by simpa using GG
                  clear GG q1 q2
                  generalize strOfNums pf = sx at *
                  go_wp2
                  go_ret
                  exact ⟨rfl, nextB B2.out (nextB B3.out (allocB _ _))⟩
              · have q1' : ((lf : Int) != (ar.life : Int)) = true := by rw [bne_iff_ne]; omega
                rw [if_neg (fun c => q1 c.1)] at GG
                obtain ⟨rfl, rfl, rfl⟩ : kd = 0 ∧ py = [] ∧ er = 3 := by simpa using GG
                clear GG q1
                generalize strOfNums pf = sx at *
                go_wp2
                go_ret
                exact ⟨rfl, nextB B2.out (nextB B3.out (allocB _ _))⟩
          · have qx' : (((ar.fs[k]).pos : Int) == x) = false := by rw [beq_eq_false_iff_ne]; exact qx
            have NN : Hid (∀ i (hi : i < ar.fs.length), i < k + 1 → ((ar.fs[i]).pos : Int) ≠ x) := fun i hi c => by
              rcases Nat.lt_or_ge i k with c1 | c1
              · exact NO.out i hi c1
              · obtain rfl : i = k := by omega
                exact qx
            clear qx
            generalize (ar.fs[k]).pos = at_ at *
            go_wp2_with fail
            go_roundg (ar.fs.length - (k + 1))
            case measure => omega
            case rel => exact ⟨k + 1, qk, rfl, by congr 1, rfl, NN.out⟩
        · obtain rfl : k = ar.fs.length := by omega
          have e3 := RN.out (fun i hi => NO.out i hi hi)
          obtain ⟨rfl, rfl, rfl⟩ : kd = 0 ∧ py = [] ∧ er = 5 := by simpa using e3
          clear e3
          go_wp2
          go_ret
          exact ⟨rfl, B2.out⟩
    · have dt : decide (s.lives = ar.lives ∧ s.on = true) = false := decide_eq_false cc
      rw [dt]
      obtain ⟨e1, rfl⟩ := RA.out cc
      have e1' : (er != 0) = true := by rw [bne_iff_ne]; exact e1
      clear dt cc RA e1
      go_wp2
      go_ret
      exact ⟨rfl, B2.out⟩

end Go.Proofs.YtblmfkdcahhhbaaDoor
namespace Go.Proofs.YtblmfkdcahhhbaaDoor
open Go.ChangeShapes Go.WideShapes Go.ChangeAt Go.RowKit Go.Deep

/-- One of the law's acts. -/
structure Ac5 where
  op : Int
  n : Int
  how : Int
  kind : Int
  life : Nat
  b : List Int
/-- It lies in memory, from a cell on. -/
structure AcAt5 (w : World) (g o : Nat) (x : Ac5) (a : Option Addr) (m c : Nat) : Prop where
  c0 : w.cell? ⟨g, o, none⟩ = some (.int .i64 x.op)
  c1 : w.cell? ⟨g, o + 1, none⟩ = some (.int .i64 x.n)
  c2 : w.cell? ⟨g, o + 2, none⟩ = some (.int .i64 x.how)
  c3 : w.cell? ⟨g, o + 3, none⟩ = some (.int .u8 x.kind)
  c4 : w.cell? ⟨g, o + 4, none⟩ = some (.int .u64 (x.life : Nat))
  c5 : w.cell? ⟨g, o + 5, none⟩ = some (.slice a m c)
  by5 : By w a m c x.b
  nm : x.n ≤ 9223372036854775807
  kd : 0 ≤ x.kind ∧ x.kind < 256
  lf : x.life < 18446744073709551616
structure Acts5 (w : World) (a : Option Addr) (len cap : Nat) (f : Nat → Ac5) : Prop where
  fits : len ≤ cap
  max : cap ≤ maxLen
  at_ : ∃ g o, (0 < len → a = some ⟨g, o, none⟩) ∧ ∀ i, i < len → ∃ a' m c, AcAt5 w g (o + i * 6) (f i) a' m c
theorem u8_of {H : Type} {enc : TypeId × Value → H} {W : World} {base fuel : Nat} {sp : Nat → Bool} {held : Bool} {V : Value} {y : DataW H × List MemPlace} (h : DataW.trod enc Tryd.prog W base sp held fuel 5 [V] = some y) : ∃ z, V = .int .u8 z ∧ 0 ≤ z ∧ z < 256 := by
  obtain ⟨z, hc, _, hw⟩ := DataW.trod_int Tryd.underlying5 h
  simp at hc
  simp [Lit.wf, IntKind.min, IntKind.max, IntKind.signed, IntKind.bits] at hw
  exact ⟨z, hc, by omega, by omega⟩
theorem u64_of {H : Type} {enc : TypeId × Value → H} {W : World} {base fuel : Nat} {sp : Nat → Bool} {held : Bool} {V : Value} {y : DataW H × List MemPlace} (h : DataW.trod enc Tryd.prog W base sp held fuel 43 [V] = some y) : ∃ z : Nat, V = .int .u64 (z : Nat) ∧ z < 18446744073709551616 := by
  obtain ⟨z, hc, _, hw⟩ := DataW.trod_int Tryd.underlying43 h
  simp at hc
  simp [Lit.wf, IntKind.min, IntKind.max, IntKind.signed, IntKind.bits] at hw
  exact ⟨z.toNat, by rw [hc]; congr 1; omega, by omega⟩
theorem acts5_of {H : Type} {enc : TypeId × Value → H} {W : World} {base fuel : Nat} {sp : Nat → Bool} {held : Bool} {a : Option Addr} {len cap : Nat} {x : DataW H × List MemPlace}
    (h : DataW.trod enc Tryd.prog W base sp held fuel 37 (Value.slice a len cap).cells.toList = some x) : ∃ f, Acts5 W a len cap f := by
  obtain ⟨h1, h2, h3, g, o, h4, h5⟩ := open_slice_fields Tryd.underlying37 Tryd.underlying45 (hone_of (by kernel_rfl)) (by kernel_rfl) (by decide) h
  have key : ∀ i, i < len → ∃ x : Ac5, ∃ a' m c, AcAt5 W g (o + i * 6) x a' m c := fun i hi => by
    obtain ⟨V0, n0, y0, e0, t0⟩ := h5 i hi 0 _ rfl
    obtain ⟨V1, n1, y1, e1, t1⟩ := h5 i hi 1 _ rfl
    obtain ⟨V2, n2, y2, e2, t2⟩ := h5 i hi 2 _ rfl
    obtain ⟨V3, n3, y3, e3, t3⟩ := h5 i hi 3 _ rfl
    obtain ⟨V4, n4, y4, e4, t4⟩ := h5 i hi 4 _ rfl
    obtain ⟨V5, n5, y5, e5, t5⟩ := h5 i hi 5 _ rfl
    obtain ⟨z0, rfl, _⟩ := i64_of t0
    obtain ⟨z1, rfl, m1⟩ := i64_of t1
    obtain ⟨z2, rfl, _⟩ := i64_of t2
    obtain ⟨z3, rfl, k3⟩ := u8_of t3
    obtain ⟨z4, rfl, k4⟩ := u64_of t4
    obtain ⟨a5, m5, c5, b5, rfl, hb⟩ := slice_of t5
    exact ⟨⟨z0, z1, z2, z3, z4, b5⟩, a5, m5, c5, e0, e1, e2, e3, e4, e5, hb, m1, k3, k4⟩
  refine ⟨fun i => if hi : i < len then Classical.choose (key i hi) else ⟨0, 0, 0, 0, 0, []⟩, h1, h2, g, o, h4, fun i hi => ?_⟩
  simp only [dif_pos hi]
  exact Classical.choose_spec (key i hi)

/-- New areas on two disks. -/
theorem Both.duo {w0 W W1 W2 : World} {p q p' q' N : Nat} {s : St} {ar1 : Ar} {va1 v2 : Value} (h : Both w0 p q p' q' N s W) (t : Tab w0) (a1 : Am W1 W.heap.size p ar1 va1) (o1 : ∀ g, va1.ownBlock = some g → W.heap.size ≤ g) (b1 : Below W.heap.size W W1) (a2 : Bm W2 W1.heap.size p' ar1 v2) (o2 : ∀ g, v2.ownBlock = some g → W1.heap.size ≤ g) (b2 : Below W1.heap.size W1 W2) (ok : ArOk N ar1) (sm : FaOk ar1.fs) (pos : laidP ar1.fs) :
    Duo w0 W2 W.heap.size p q W1.heap.size p' q' N s ar1 va1 s ar1 v2 := by
  have b12 := nextB b1 b2
  have hp := h.i.d.ltp
  have hq := h.i.d.ltq
  have hp' := h.k.ltp
  have hq' := h.k.ltq
  have hs := b1.size
  have h0 := h.i.b.size
  have la : ∀ x, x ∈ p :: q :: W.heap.size :: vb va1 → (x = p ∨ x = q ∨ (W.heap.size ≤ x ∧ x < W1.heap.size)) := fun x hx => by
    rcases List.mem_cons.1 hx with rfl | hx
    · exact .inl rfl
    rcases List.mem_cons.1 hx with rfl | hx
    · exact .inr (.inl rfl)
    rcases List.mem_cons.1 hx with rfl | hx
    · exact .inr (.inr ⟨Nat.le_refl _, a1.lt⟩)
    · exact .inr (.inr ⟨o1 x (vb_mem.1 hx), (owns_lt a1.own (vb_mem.1 hx)).1⟩)
  have lb : ∀ x, x ∈ p' :: q' :: W1.heap.size :: vb v2 → (x = p' ∨ x = q' ∨ W1.heap.size ≤ x) := fun x hx => by
    rcases List.mem_cons.1 hx with rfl | hx
    · exact .inl rfl
    rcases List.mem_cons.1 hx with rfl | hx
    · exact .inr (.inl rfl)
    rcases List.mem_cons.1 hx with rfl | hx
    · exact .inr (.inr (Nat.le_refl _))
    · exact .inr (.inr (o2 x (vb_mem.1 hx)))
  have n1 := h.ne.a
  have n2 := h.ne.b
  have n3 := h.ne.c
  have n4 := h.ne.d
  have l1 := h.i.lp
  have l2 := h.i.lq
  have l3 := h.lp
  have l4 := h.lq
  refine ⟨h.i.d.below b12, a1.below b2, h.k.below b12, a2, fun x hx hy => ?_, by omega, fun g hg => by have := o1 g hg; omega, by omega, fun g hg => by have := o2 g hg; omega, fun x hx => ?_, fun x hx => ?_, nextB h.i.b b12, ok, ok, sm, pos, t⟩
  · have := la x hx; have := lb x hy; omega
  · have := la x hx; omega
  · have := lb x hx; omega
section
variable {w0 W W' : World} {pa p q pb p' q' N : Nat} {s s1 s' : St} {ar ar1 ar' : Ar} {va va1 vw : Value}
theorem Duo.beginA (h : Duo w0 W pa p q pb p' q' N s ar va s' ar' vw) (l : Nat) (hl : l < 18446744073709551616) :
    Calls Tryd.prog 18 #[.pointer (some ⟨pa, 0, none⟩), .int .u64 (l : Nat)] W fun e W' => e = .returned (.tuple #[]) ∧ Duo w0 W' pa p q pb p' q' N s { ar with life := l, fs := [] } (.slice none 0 0) s' ar' vw ∧ Ch1 [pa] W W' := by
  refine (Begin_any W pa p l ar va h.am).mono ?_
  rintro e W' ⟨rfl, a', c⟩
  have na := h.na
  have c' : Ch1 (p :: q :: pa :: vb va) W W' := c.mono (fun x hx => by simp at hx; simp [hx])
  have d' : Dk W' p q N s := h.d.kept (c.block p h.d.ltp (by simp; omega)) (c.block q h.d.ltq (by simp; omega))
  have no : ∀ x, x ∈ p' :: q' :: pb :: vb vw → W'.heap[x]? = W.heap[x]? := fun x hx => c'.block x (h.ltb x hx) (fun c => h.ap x c hx)
  refine ⟨rfl, ⟨d', a', h.k.kept (no p' (by simp)) (no q' (by simp)), h.bm.kept (no pb (by simp)) (fun g hg => no g (List.mem_cons_of_mem _ (List.mem_cons_of_mem _ (List.mem_cons_of_mem _ (vb_mem.2 hg))))), fun x hx => h.ap x ?_, na, fun g hg => by simp [Value.ownBlock] at hg, h.nb, h.nw, fun x hx => h.la x ?_, h.lb, Below.ch h.b c' h.la, ⟨Nat.zero_le _, h.ok.far, h.ok.big, hl, h.ok.liv⟩, h.ok', h.sm, laidP_nil, h.t0⟩, c⟩
  · simp [vb, Value.ownBlock] at hx
    simp only [List.mem_cons]
    omega
  · simp [vb, Value.ownBlock] at hx
    simp only [List.mem_cons]
    omega
theorem Bm.clear {w : World} (h : Bm w pb p ar va) : Bm (w.setCell ⟨pb, 4, none⟩ (.slice none 0 0)) pb p { ar with fs := [] } (.slice none 0 0) := by
  refine ⟨?_, ?_, ?_, ?_, World.cell?_setCell_same _ _ _ h.c4, ?_, World.ownsRow_nil _ _ _ _, fun o => by simpa using h.fz o, by simp [Value.ownBlock]⟩
  · rw [cell_set_ne _ (by decide)]; exact h.c0
  · rw [cell_set_ne _ (by decide)]; exact h.c1
  · rw [cell_set_ne _ (by decide)]; exact h.c2
  · rw [cell_set_ne _ (by decide)]; exact h.c3
  · rw [cell_set_ne _ (by decide)]; exact h.c5
theorem Duo.beginB (h : Duo w0 W pa p q pb p' q' N s ar va s' ar' vw) (l : Nat) (hl : l < 18446744073709551616) :
    Duo w0 ((W.setCell ⟨pb, 3, none⟩ (.int .u64 (l : Nat))).setCell ⟨pb, 4, none⟩ (.slice none 0 0)) pa p q pb p' q' N s ar va s' { ar' with life := l, fs := [] } (.slice none 0 0) := by
  have c : Ch1 [pb] W ((W.setCell ⟨pb, 3, none⟩ (.int .u64 (l : Nat))).setCell ⟨pb, 4, none⟩ (.slice none 0 0)) := (Ch1.set [pb] _ _ _ (by simp)).trans (Ch1.set [pb] _ _ _ (by simp))
  have nb := h.nb
  have c' := c.mono (T := p' :: q' :: pb :: vb vw) (fun x hx => by simp at hx; simp [hx])
  have no : ∀ x, x ∈ p :: q :: pa :: vb va → ((W.setCell ⟨pb, 3, none⟩ (.int .u64 (l : Nat))).setCell ⟨pb, 4, none⟩ (.slice none 0 0)).heap[x]? = W.heap[x]? := fun x hx => c'.block x (h.lta x hx) (fun c => h.ap x hx c)
  refine ⟨h.d.kept (no p (by simp)) (no q (by simp)), h.am.kept (no pa (by simp)) (fun g hg => no g (List.mem_cons_of_mem _ (List.mem_cons_of_mem _ (List.mem_cons_of_mem _ (vb_mem.2 hg))))), h.k.kept (c.block p' h.k.ltp (by simp; omega)) (c.block q' h.k.ltq (by simp; omega)), (h.bm.life l).clear, fun x hx hy => h.ap x hx ?_, h.na, h.nv, nb, fun g hg => by simp [Value.ownBlock] at hg, h.la, fun x hx => h.lb x ?_, Below.ch h.b c' h.lb, h.ok, ⟨Nat.zero_le _, h.ok'.far, h.ok'.big, hl, h.ok'.liv⟩, FaOk.nil, h.pos, h.t0⟩
  · simp [vb, Value.ownBlock] at hy
    simp only [List.mem_cons]
    omega
  · simp [vb, Value.ownBlock] at hx
    simp only [List.mem_cons]
    omega
theorem Duo.both (h : Duo w0 W pa p q pb p' q' N s ar va s ar' vw) : Both w0 p q p' q' N s W :=
  ⟨⟨h.d, h.b, h.la p (by simp), h.la q (by simp)⟩, h.k, ⟨fun e => h.ap p (by simp) (by simp [e]), fun e => h.ap p (by simp) (by simp [e]), fun e => h.ap q (by simp) (by simp [e]), fun e => h.ap q (by simp) (by simp [e])⟩, h.lb p' (by simp), h.lb q' (by simp)⟩
end

end Go.Proofs.YtblmfkdcahhhbaaDoor
