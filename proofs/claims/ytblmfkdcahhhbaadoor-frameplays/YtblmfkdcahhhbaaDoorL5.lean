/- The walk over the reference's Add. -/
import Derived.Test.YtblmfkdcahhhbaaDoorL4
namespace Go.Proofs.YtblmfkdcahhhbaaDoor
open Go.RowKit
set_option linter.unusedVariables false
set_option linter.unusedSimpArgs false

/-- What the reference's Add leaves. -/
structure BAddP (w : World) (pb p q N : Nat) (v : Value) (r : Ans) (e : Ending) (w' : World) : Prop where
  ret : e = .returned (.tuple #[.int .i64 r.pos, .int .i64 r.err])
  d : Kk w' p q N r.s
  am : ∃ v', Bm w' pb p r.a v' ∧ (v'.ownBlock = v.ownBlock ∨ ∃ g, v'.ownBlock = some g ∧ w.heap.size ≤ g)
  ch : Ch1 (p :: q :: pb :: vb v) w w'
theorem BAddP.same {w w' : World} {pb p q N : Nat} {v : Value} {s : St} {ar : Ar} {x y : Int} (h : Bm w pb p ar v) (d : Kk w p q N s) (b : Below w.heap.size w w') : BAddP w pb p q N v ⟨x, y, s, ar⟩ (.returned (.tuple #[.int .i64 x, .int .i64 y])) w' :=
  ⟨rfl, d.below b, ⟨v, h.below b, Or.inl rfl⟩, Ch1.of_below b⟩

set_option maxHeartbeats 2000000 in
theorem BAdd_big (w : World) (pb p q N : Nat) (s : St) (ar : Ar) (v : Value) (h : Bm w pb p ar v) (d : Kk w p q N s) (kd : Int) (b : List Int) (hm : 1000 < b.length) :
    Calls Tryd.prog 17 #[.pointer (some ⟨pb, 0, none⟩), .int .u8 kd, .string (strOfNums b)] w fun e w' => BAddP w pb p q N v (addG N s ar kd b) e w' := by
  rw [addG_big hm]
  have sx : (strOfNums b).size = b.length := str_size _
  have hm' : (1000 : Int) < (b.length : Int) := by omega
  have H : Hid _ := h
  have D : Hid _ := d
  clear h d
  generalize strOfNums b = x at *
  generalize b.length = m at *
  go_enter Tryd.func17, Tryd.ntmps17
  go_wp2
  go_ret2
  exact BAddP.same H.out D.out (Below.refl _ _)
set_option maxHeartbeats 2000000 in
theorem BAdd_over (w : World) (pb p q N : Nat) (s : St) (ar : Ar) (v : Value) (h : Bm w pb p ar v) (d : Kk w p q N s) (kd : Int) (b : List Int) (hm : b.length ≤ 1000) (hl : s.lives ≠ ar.lives) :
    Calls Tryd.prog 17 #[.pointer (some ⟨pb, 0, none⟩), .int .u8 kd, .string (strOfNums b)] w fun e w' => BAddP w pb p q N v (addG N s ar kd b) e w' := by
  rw [addG_over hm hl]
  have sx : (strOfNums b).size = b.length := str_size _
  have hm' : ¬ (1000 : Int) < (b.length : Int) := by omega
  have dl : ((s.lives : Int) != (ar.lives : Int)) = true := by rw [bne_iff_ne]; omega
  have H : Hid _ := h
  have D : Hid _ := d
  have c0 := h.c0
  have c5 := h.c5
  have k5 := d.c5
  clear h d hl
  generalize strOfNums b = x at *
  generalize b.length = m at *
  go_enter Tryd.func17, Tryd.ntmps17
  go_wp2_with fail
  go_quiet (fail)
  go_wp2
  go_ret2
  exact BAddP.same H.out D.out (drewB (Below.refl _ _) _)
set_option maxHeartbeats 2000000 in
theorem BAdd_full (w : World) (pb p q N : Nat) (s : St) (ar : Ar) (v : Value) (h : Bm w pb p ar v) (d : Kk w p q N s) (ok : ArOk N ar) (sm : FaOk ar.fs) (kd : Int) (b : List Int) (hm : b.length ≤ 1000) (hl : s.lives = ar.lives) (hf : ar.count - used ar.fs < fsize b.length) :
    Calls Tryd.prog 17 #[.pointer (some ⟨pb, 0, none⟩), .int .u8 kd, .string (strOfNums b)] w fun e w' => BAddP w pb p q N v (addG N s ar kd b) e w' := by
  rw [addG_full hm hl hf]
  have sx : (strOfNums b).size = b.length := str_size _
  have hm' : ¬ (1000 : Int) < (b.length : Int) := by omega
  have dl : ((s.lives : Int) != (ar.lives : Int)) = false := by rw [bne_eq_false_iff_eq]; omega
  have H : Hid _ := h
  have D : Hid _ := d
  have US : Hid (∀ k, _) := fun k => BUsed_any (w.drewN k) pb p N ar v (h.drewN k) ok (fun f hf => (sm f hf).1)
  have SZ : Hid (∀ W, _) := fun W => kSize_any b.length W hm
  have hf' : (ar.count : Int) - (used ar.fs : Int) < (fsize b.length : Int) := by have := ok.fit; omega
  have u1 : (used ar.fs : Int) ≤ (ar.count : Int) := by have := ok.fit; omega
  have u2 : (ar.count : Int) ≤ 4096 := by have := ok.far; have := ok.big; omega
  have c0 := h.c0
  have c5 := h.c5
  have k5 := d.c5
  have c2 := h.c2
  clear h d hl ok sm hf hm
  generalize strOfNums b = x at *
  generalize b.length = m at *
  generalize used ar.fs = u at *
  generalize fsize m = z at *
  go_enter Tryd.func17, Tryd.ntmps17
  go_wp2_with fail
  go_quiet (fail)
  have d2 : (w.drewN nq).cell? ⟨pb, 2, none⟩ = some (.int .i64 (ar.count : Nat)) := c2
  have UW : Hid _ := US.out nq
  have BW : Hid (Below w.heap.size w (w.drewN nq)) := drewB (Below.refl _ _) _
  clear US c0 c5 k5 c2
  generalize w.drewN nq = w2 at *
  go_wp2_with (first | (go_at_call 42; refine Calls.mono UW.out ?_; rintro e w' ⟨rfl, rfl⟩) | (go_at_call 41; refine Calls.mono (SZ.out _) ?_; rintro e w' ⟨rfl, rfl⟩))
  go_ret2
  exact BAddP.same H.out D.out BW.out

/-- The writing under way. -/
structure BWr (w wr : World) (pb p q N : Nat) (ar : Ar) (v : Value) (i n : Nat) (f : Nat → List Int) (s st : St) (k : Nat) : Prop where
  bm : Bm wr pb p ar v
  kk : Kk wr p q N st
  ch : Ch1 [p, q] w wr
  go : wrs N i f n s = wrs N i f k st
  wr : st.writes + k ≤ s.writes + n
theorem BWr.same {w wr w' : World} {pb p q N : Nat} {ar : Ar} {v : Value} {i n : Nat} {f : Nat → List Int} {s st : St} {k : Nat} (h : BWr w wr pb p q N ar v i n f s st k) (b : Below wr.heap.size wr w') : BWr w w' pb p q N ar v i n f s st k :=
  ⟨h.bm.below b, h.kk.below b, h.ch.trans (Ch1.of_below b), h.go, h.wr⟩
theorem fsec_mid {kd : Int} {life num : Nat} {b : List Int} {k : Nat} (hk : 1 ≤ k) : fsec kd life num b k = 67 :: seg b (44 + 63 * (k - 1)) 63 := by
  obtain ⟨j, rfl⟩ : ∃ j, k = j + 1 := ⟨k - 1, by omega⟩
  rfl
theorem seg_end {b : List Int} {i n : Nat} (h : b.length ≤ i + n) : seg b i n = seg b i (b.length - i) := by
  unfold seg
  rw [List.take_of_length_le (by rw [List.length_drop]; omega), List.take_of_length_le (by rw [List.length_drop]; omega)]
theorem fsize_in {m k : Nat} (h : k < fsize m) (h1 : 1 ≤ k) : 44 + 63 * (k - 1) < m := by unfold fsize at h; omega

set_option maxRecDepth 100000 in
set_option maxHeartbeats 8000000 in
theorem BAdd_go (w : World) (pb p q N : Nat) (s : St) (ar : Ar) (v : Value) (h : Bm w pb p ar v) (d : Kk w p q N s) (ok : ArOk N ar) (sm : FaOk ar.fs) (kd : Int) (hk : 0 ≤ kd ∧ kd < 256) (b : List Int) (hb : Bys b) (hm : b.length ≤ 1000) (hl : s.lives = ar.lives) (hf : fsize b.length ≤ ar.count - used ar.fs) (hw : s.writes ≤ 900000) (ne : pb ≠ p ∧ pb ≠ q) (sv : ∀ g, v.ownBlock = some g → g ≠ p ∧ g ≠ q) :
    Calls Tryd.prog 17 #[.pointer (some ⟨pb, 0, none⟩), .int .u8 kd, .string (strOfNums b)] w fun e w' => BAddP w pb p q N v (addG N s ar kd b) e w' := by
  obtain ⟨i0, hi, hz0, hz1, hz2⟩ := info_parts frameInfo
  have sx : (strOfNums b).size = b.length := str_size _
  have hm' : ¬ (1000 : Int) < (b.length : Int) := by omega
  have dl : ((s.lives : Int) != (ar.lives : Int)) = false := by rw [bne_eq_false_iff_eq]; omega
  have H : Hid _ := h
  have D : Hid _ := d
  have OK : Hid _ := ok
  have HKD : Hid _ := hk
  have HB : Hid _ := hb
  have HM : Hid _ := hm
  have HL : Hid _ := hl
  have HF : Hid _ := hf
  have HW : Hid _ := hw
  have NE : Hid _ := ne
  have SV : Hid _ := sv
  have US : Hid (∀ k, _) := fun k => BUsed_any (w.drewN k) pb p N ar v (h.drewN k) ok (fun f hf => (sm f hf).1)
  have SZ : Hid (∀ W, _) := fun W => kSize_any b.length W hm
  have hf' : ¬ (ar.count : Int) - (used ar.fs : Int) < (fsize b.length : Int) := by have := ok.fit; omega
  have u1 : (used ar.fs : Int) ≤ (ar.count : Int) := by have := ok.fit; omega
  have u2 : (ar.count : Int) ≤ 4096 := by have := ok.far; have := ok.big; omega
  have z1 : (fsize b.length : Int) ≤ 17 := by have := fsize_le hm; omega
  have c0 := h.c0
  have c5 := h.c5
  have k5 := d.c5
  have c2 := h.c2
  obtain ⟨a, cap, rfl, f1, f2, -⟩ := h.form
  clear h d hl ok sm hf hm hw ne sv hb hk f1 f2
  go_enter Tryd.func17, Tryd.ntmps17
  go_wp2_with fail
  go_quiet (fail)
  have d2 : (w.drewN nq).cell? ⟨pb, 2, none⟩ = some (.int .i64 (ar.count : Nat)) := c2
  have UW : Hid _ := US.out nq
  have BW : Hid (Below w.heap.size w (w.drewN nq)) := drewB (Below.refl _ _) _
  clear US c0 c5 k5 c2 dl
  generalize w.drewN nq = w2 at *
  clear nq
  go_wp2_with (first | (go_at_call 42; refine Calls.mono UW.out ?_; rintro e w' ⟨rfl, rfl⟩) | (go_at_call 41; refine Calls.mono (SZ.out _) ?_; rintro e w' ⟨rfl, rfl⟩))
  have H2 : Hid _ := H.out.below BW.out
  have D2 : Hid _ := D.out.below BW.out
  have c3 := H2.out.c3
  have c4 := H2.out.c4
  have pl := H2.out.lt
  have fl : (ar.fs.length : Int) ≤ 4096 := by have := OK.out.len; omega
  clear d2 UW SZ hf'
  have wk : IntKind.u64.wrap (ar.fs.length : Int) = (ar.fs.length : Int) := by rw [IntKind.wrap_u64]; omega
  have wm : IntKind.u64.wrap (b.length : Int) = (b.length : Int) := by rw [IntKind.wrap_u64]; omega
  have LX : Hid (ar.life < 18446744073709551616 ∧ ar.fs.length ≤ 4096 ∧ b.length ≤ 1000) := ⟨OK.out.lif, OK.out.len, HM.out⟩
  have E4 : Hid (strOfNums [72, kd] ++ strOfNums (lowB 8 ar.life) ++ strOfNums (lowB 4 ar.fs.length) ++ strOfNums (lowB 2 b.length) = strOfNums (hd16 kd ar.life ar.fs.length b.length)) := by
    show _ = _
    rw [str_app, str_app, str_app]
    rfl
  have q1 : (strOfNums [72, kd]).size = 2 := str_size _
  have q2 : (strOfNums (lowB 8 ar.life)).size = 8 := by rw [str_size, lowB_len]
  have q3 : (strOfNums (lowB 4 ar.fs.length)).size = 4 := by rw [str_size, lowB_len]
  have q4 : (strOfNums (lowB 2 b.length)).size = 2 := by rw [str_size, lowB_len]
  have KL1 : Hid (∀ W, _) := fun W => klow_any ar.life 8 W OK.out.lif (by decide)
  have KL2 : Hid (∀ W, _) := fun W => klow_any ar.fs.length 4 W (by have := OK.out.len; omega) (by decide)
  have KL3 : Hid (∀ W, _) := fun W => klow_any b.length 2 W (by have := HM.out; omega) (by decide)
  have BC : Hid (∀ W W' : World, Below (W.alloc (.cells #[.int .u8 72, .int .u8 kd] 5)).heap.size (W.alloc (.cells #[.int .u8 72, .int .u8 kd] 5)) W' → (convert 32 9 (.slice (some ⟨W.heap.size, 0, none⟩) 2 2)).run Tryd.prog W' = .ok (.string (strOfNums [72, kd])) W') := fun W W' h => By.str (bs := [72, kd]) (By.below (by_const W [72, kd] (Bys.mk (by decide) (by decide) (Bys.mk HKD.out.1 HKD.out.2 Bys.nil)) (by simp) (0, 0) 5) h)
  generalize strOfNums [72, kd] = x1 at *
  generalize strOfNums (lowB 8 ar.life) = x2 at *
  generalize strOfNums (lowB 4 ar.fs.length) = x3 at *
  generalize strOfNums (lowB 2 b.length) = x4 at *
  have s1 : ¬ 9223372036854775807 < x1.size + x2.size := by omega
  have s2 : ¬ 9223372036854775807 < (x1 ++ x2).size + x3.size := by rw [ByteArray.size_append]; omega
  have s3 : ¬ 9223372036854775807 < (x1 ++ x2 ++ x3).size + x4.size := by rw [ByteArray.size_append, ByteArray.size_append]; omega
  have C3 : Hid (∀ W, Below w2.heap.size w2 W → W.cell? ⟨pb, 3, none⟩ = some (.int .u64 (ar.life : Nat))) := fun W hW => (hW.cell (p := ⟨pb, 3, none⟩) H2.out.lt).trans H2.out.c3
  have C4 : Hid (∀ W, Below w2.heap.size w2 W → W.cell? ⟨pb, 4, none⟩ = some (.slice a ar.fs.length cap)) := fun W hW => (hW.cell (p := ⟨pb, 4, none⟩) H2.out.lt).trans H2.out.c4
  clear c3 c4
  go_cut [10] from 10 to 67 (fun sl wx => sl = .string (x1 ++ x2 ++ x3 ++ x4) ∧ Hid (Below w2.heap.size w2 wx))
  case first =>
    refine wp_region_held_drew (S := fun W => Below w2.heap.size w2 W) (by kernel_rfl) (Below.refl _ _).drew (fun hHeld => ?_)
    refine take2 rfl (i := 0) (v := .int .u8 kd) (d := 46) rfl rfl (by kernel_rfl) (by kernel_rfl) (by kernel_rfl) (fun _ _ _ h => h) (Or.inl ⟨by rfl, ?_⟩) (by exact hHeld) ?_
    · intro W hW
      try dsimp only at hW
      go_simp
    try simp only [Act.put, List.setIfInBounds_toArray, List.set_cons_zero, List.set_cons_succ]
    refine take2 rfl (i := 3) (v := .pointer (some ⟨pb, 0, none⟩)) (d := 49) rfl rfl (by kernel_rfl) (by kernel_rfl) (by kernel_rfl) (fun _ _ _ h => h) (Or.inl ⟨by rfl, ?_⟩) (by exact hHeld) ?_
    · intro W hW
      try dsimp only at hW
      go_simp
    try simp only [Act.put, List.setIfInBounds_toArray, List.set_cons_zero, List.set_cons_succ]
    refine take2 rfl (i := 4) (v := .pointer (some ⟨pb, 0, none⟩)) (d := 50) rfl rfl (by kernel_rfl) (by kernel_rfl) (by kernel_rfl) (fun _ _ _ h => h) (Or.inl ⟨by rfl, ?_⟩) (by exact hHeld) ?_
    · intro W hW
      try dsimp only at hW
      have kx := C3.out W hW
      go_simp
    try simp only [Act.put, List.setIfInBounds_toArray, List.set_cons_zero, List.set_cons_succ]
    refine take2 rfl (i := 5) (v := .pointer (some ⟨pb, 3, none⟩)) (d := 51) rfl rfl (by kernel_rfl) (by kernel_rfl) (by kernel_rfl) (fun _ _ _ h => h) (Or.inl ⟨by rfl, ?_⟩) (by exact hHeld) ?_
    · intro W hW
      try dsimp only at hW
      go_simp
    try simp only [Act.put, List.setIfInBounds_toArray, List.set_cons_zero, List.set_cons_succ]
    refine take2 rfl (i := 6) (v := .int .u64 (ar.life : Nat)) (d := 52) rfl rfl (by kernel_rfl) (by kernel_rfl) (by kernel_rfl) (fun _ _ _ h => h) (Or.inl ⟨by rfl, ?_⟩) (by exact hHeld) ?_
    · intro W hW
      try dsimp only at hW
      have kx := C3.out W hW
      go_simp
    try simp only [Act.put, List.setIfInBounds_toArray, List.set_cons_zero, List.set_cons_succ]
    refine take2 rfl (i := 9) (v := .pointer (some ⟨pb, 0, none⟩)) (d := 55) rfl rfl (by kernel_rfl) (by kernel_rfl) (by kernel_rfl) (fun _ _ _ h => h) (Or.inl ⟨by rfl, ?_⟩) (by exact hHeld) ?_
    · intro W hW
      try dsimp only at hW
      go_simp
    try simp only [Act.put, List.setIfInBounds_toArray, List.set_cons_zero, List.set_cons_succ]
    refine take2 rfl (i := 10) (v := .pointer (some ⟨pb, 0, none⟩)) (d := 56) rfl rfl (by kernel_rfl) (by kernel_rfl) (by kernel_rfl) (fun _ _ _ h => h) (Or.inl ⟨by rfl, ?_⟩) (by exact hHeld) ?_
    · intro W hW
      try dsimp only at hW
      have kx := C3.out W hW
      go_simp
    try simp only [Act.put, List.setIfInBounds_toArray, List.set_cons_zero, List.set_cons_succ]
    refine take2 rfl (i := 11) (v := .pointer (some ⟨pb, 4, none⟩)) (d := 57) rfl rfl (by kernel_rfl) (by kernel_rfl) (by kernel_rfl) (fun _ _ _ h => h) (Or.inl ⟨by rfl, ?_⟩) (by exact hHeld) ?_
    · intro W hW
      try dsimp only at hW
      go_simp
    try simp only [Act.put, List.setIfInBounds_toArray, List.set_cons_zero, List.set_cons_succ]
    refine take2 rfl (i := 12) (v := .slice a ar.fs.length cap) (d := 58) rfl rfl (by kernel_rfl) (by kernel_rfl) (by kernel_rfl) (fun _ _ _ h => h) (Or.inl ⟨by rfl, ?_⟩) (by exact hHeld) ?_
    · intro W hW
      try dsimp only at hW
      have kx := C4.out W hW
      go_simp
    try simp only [Act.put, List.setIfInBounds_toArray, List.set_cons_zero, List.set_cons_succ]
    refine take2 rfl (i := 13) (v := .int .i64 (ar.fs.length : Nat)) (d := 59) rfl rfl (by kernel_rfl) (by kernel_rfl) (by kernel_rfl) (fun _ _ _ h => h) (Or.inl ⟨by rfl, ?_⟩) (by exact hHeld) ?_
    · intro W hW
      try dsimp only at hW
      go_simp
    try simp only [Act.put, List.setIfInBounds_toArray, List.set_cons_zero, List.set_cons_succ]
    refine take2 rfl (i := 14) (v := .int .u64 (ar.fs.length : Nat)) (d := 60) rfl rfl (by kernel_rfl) (by kernel_rfl) (by kernel_rfl) (fun _ _ _ h => h) (Or.inl ⟨by rfl, ?_⟩) (by exact hHeld) ?_
    · intro W hW
      try dsimp only at hW
      go_simp
    try simp only [Act.put, List.setIfInBounds_toArray, List.set_cons_zero, List.set_cons_succ]
    refine take2 rfl (i := 17) (v := .string (strOfNums b)) (d := 63) rfl rfl (by kernel_rfl) (by kernel_rfl) (by kernel_rfl) (fun _ _ _ h => h) (Or.inl ⟨by rfl, ?_⟩) (by exact hHeld) ?_
    · intro W hW
      try dsimp only at hW
      go_simp
    try simp only [Act.put, List.setIfInBounds_toArray, List.set_cons_zero, List.set_cons_succ]
    refine take2 rfl (i := 18) (v := .int .i64 (b.length : Nat)) (d := 64) rfl rfl (by kernel_rfl) (by kernel_rfl) (by kernel_rfl) (fun _ _ _ h => h) (Or.inl ⟨by rfl, ?_⟩) (by exact hHeld) ?_
    · intro W hW
      try dsimp only at hW
      go_simp
    try simp only [Act.put, List.setIfInBounds_toArray, List.set_cons_zero, List.set_cons_succ]
    refine take2 rfl (i := 19) (v := .int .u64 (b.length : Nat)) (d := 65) rfl rfl (by kernel_rfl) (by kernel_rfl) (by kernel_rfl) (fun _ _ _ h => h) (Or.inl ⟨by rfl, ?_⟩) (by exact hHeld) ?_
    · intro W hW
      try dsimp only at hW
      go_simp
    try simp only [Act.put, List.setIfInBounds_toArray, List.set_cons_zero, List.set_cons_succ]
    refine wpAnyH_ready (rs := [1, 7]) (by kernel_rfl) (by simp) ?_
    refine cons22 rfl rfl rfl (fun K hK => ?_) (fun K hK => ?_)
    · go_simp
      have By1 : Hid (Below w2.heap.size w2 ((w2.alloc (.cells #[.int .u8 72, .int .u8 kd] 5)).drew)) := (allocB _ _).drew
      have Sy1 : Hid (∀ W', Below ((w2.alloc (.cells #[.int .u8 72, .int .u8 kd] 5)).drew).heap.size ((w2.alloc (.cells #[.int .u8 72, .int .u8 kd] 5)).drew) W' → (convert 32 9 (.slice (some ⟨w2.heap.size, 0, none⟩) 2 2)).run Tryd.prog W' = .ok (.string x1) W') := fun W' h => BC.out w2 W' (nextB ((Below.refl _ _).drew) h)
      generalize ((w2.alloc (.cells #[.int .u8 72, .int .u8 kd] 5)).drew) = y1 at *
      have Qy1 : Hid (Below w2.heap.size w2 y1) := By1.out
      refine hK.out _ _ ?_ (fun hX => ?_)
      · exact By1.out
      clear hK K hX hHeld
      try simp only [Act.put, List.setIfInBounds_toArray, List.set_cons_zero, List.set_cons_succ]
      refine wpAnyH_strong (S' := fun W => Below y1.heap.size y1 W) (fun W hW => nextB By1.out hW) _ _ _ _ ?_
      have hHeld : Below y1.heap.size y1 y1 := Below.refl _ _
      refine take2 rfl (i := 2) (v := .string x1) (d := 48) rfl rfl (by kernel_rfl) (by kernel_rfl) (by kernel_rfl) (fun _ _ _ h => h) (Or.inl ⟨by rfl, ?_⟩) (by exact hHeld) ?_
      · intro W hW
        try dsimp only at hW
        have st := Sy1.out W hW
        go_simp
      try simp only [Act.put, List.setIfInBounds_toArray, List.set_cons_zero, List.set_cons_succ]
      refine wpAnyH_ready (rs := [7]) (by kernel_rfl) (by simp) ?_
      refine cons2 rfl rfl (fun K hK => ?_)
      go_simp
      refine Calls.mono (KL1.out _) ?_
      rintro e y2 ⟨rfl, by_⟩
      have By2 : Hid (Below y1.heap.size y1 y2) := by_
      have Qy2 : Hid (Below w2.heap.size w2 y2) := nextB Qy1.out By2.out
      clear by_
      go_wp2_with fail
      refine hK.out _ _ ?_ (fun hX => ?_)
      · exact By2.out
      clear hK K hX hHeld
      try simp only [Act.put, List.setIfInBounds_toArray, List.set_cons_zero, List.set_cons_succ]
      refine wpAnyH_strong (S' := fun W => Below y2.heap.size y2 W) (fun W hW => nextB By2.out hW) _ _ _ _ ?_
      have hHeld : Below y2.heap.size y2 y2 := Below.refl _ _
      refine take2 rfl (i := 8) (v := .string (x1 ++ x2)) (d := 54) rfl rfl (by kernel_rfl) (by kernel_rfl) (by kernel_rfl) (fun _ _ _ h => h) (Or.inl ⟨by rfl, ?_⟩) (by exact hHeld) ?_
      · intro W hW
        try dsimp only at hW
        go_simp
      try simp only [Act.put, List.setIfInBounds_toArray, List.set_cons_zero, List.set_cons_succ]
      refine wpAnyH_ready (rs := [15]) (by kernel_rfl) (by simp) ?_
      refine cons2 rfl rfl (fun K hK => ?_)
      go_simp
      refine Calls.mono (KL2.out _) ?_
      rintro e y3 ⟨rfl, by_⟩
      have By3 : Hid (Below y2.heap.size y2 y3) := by_
      have Qy3 : Hid (Below w2.heap.size w2 y3) := nextB Qy2.out By3.out
      clear by_
      go_wp2_with fail
      refine hK.out _ _ ?_ (fun hX => ?_)
      · exact By3.out
      clear hK K hX hHeld
      try simp only [Act.put, List.setIfInBounds_toArray, List.set_cons_zero, List.set_cons_succ]
      refine wpAnyH_strong (S' := fun W => Below y3.heap.size y3 W) (fun W hW => nextB By3.out hW) _ _ _ _ ?_
      have hHeld : Below y3.heap.size y3 y3 := Below.refl _ _
      refine take2 rfl (i := 16) (v := .string (x1 ++ x2 ++ x3)) (d := 62) rfl rfl (by kernel_rfl) (by kernel_rfl) (by kernel_rfl) (fun _ _ _ h => h) (Or.inl ⟨by rfl, ?_⟩) (by exact hHeld) ?_
      · intro W hW
        try dsimp only at hW
        go_simp
      try simp only [Act.put, List.setIfInBounds_toArray, List.set_cons_zero, List.set_cons_succ]
      refine wpAnyH_ready (rs := [20]) (by kernel_rfl) (by simp) ?_
      refine cons2 rfl rfl (fun K hK => ?_)
      go_simp
      refine Calls.mono (KL3.out _) ?_
      rintro e y4 ⟨rfl, by_⟩
      have By4 : Hid (Below y3.heap.size y3 y4) := by_
      have Qy4 : Hid (Below w2.heap.size w2 y4) := nextB Qy3.out By4.out
      clear by_
      go_wp2_with fail
      refine hK.out _ _ ?_ (fun hX => ?_)
      · exact By4.out
      clear hK K hX hHeld
      try simp only [Act.put, List.setIfInBounds_toArray, List.set_cons_zero, List.set_cons_succ]
      refine wpAnyH_strong (S' := fun W => Below y4.heap.size y4 W) (fun W hW => nextB By4.out hW) _ _ _ _ ?_
      have hHeld : Below y4.heap.size y4 y4 := Below.refl _ _
      refine take2 rfl (i := 21) (v := .string (x1 ++ x2 ++ x3 ++ x4)) (d := 67) rfl rfl (by kernel_rfl) (by kernel_rfl) (by kernel_rfl) (fun _ _ _ h => h) (Or.inl ⟨by rfl, ?_⟩) (by exact hHeld) ?_
      · intro W hW
        try dsimp only at hW
        go_simp
      try simp only [Act.put, List.setIfInBounds_toArray, List.set_cons_zero, List.set_cons_succ]
      refine take2 rfl (i := 22) (v := .string (x1 ++ x2 ++ x3 ++ x4)) (d := 10) rfl rfl (by kernel_rfl) (by kernel_rfl) (by kernel_rfl) (fun _ _ _ h => h) (Or.inl ⟨by rfl, ?_⟩) (by exact hHeld) ?_
      · intro W hW
        try dsimp only at hW
        go_simp
      try simp only [Act.put, List.setIfInBounds_toArray, List.set_cons_zero, List.set_cons_succ]
      refine wpAnyH_done (by kernel_rfl) ?_ _
      go_wp2
      go_meet
      case rel => exact ⟨rfl, Qy4.out⟩
    · go_simp
      refine Calls.mono (KL1.out _) ?_
      rintro e y5 ⟨rfl, by_⟩
      have By5 : Hid (Below w2.heap.size w2 y5) := nextB ((Below.refl _ _).drew) by_
      have Qy5 : Hid (Below w2.heap.size w2 y5) := By5.out
      clear by_
      go_wp2_with fail
      refine hK.out _ _ ?_ (fun hX => ?_)
      · exact By5.out
      clear hK K hX hHeld
      try simp only [Act.put, List.setIfInBounds_toArray, List.set_cons_zero, List.set_cons_succ]
      refine wpAnyH_strong (S' := fun W => Below y5.heap.size y5 W) (fun W hW => nextB By5.out hW) _ _ _ _ ?_
      have hHeld : Below y5.heap.size y5 y5 := Below.refl _ _
      refine wpAnyH_ready (rs := [1, 15]) (by kernel_rfl) (by simp) ?_
      refine cons22 rfl rfl rfl (fun K hK => ?_) (fun K hK => ?_)
      · go_simp
        have By6 : Hid (Below y5.heap.size y5 (y5.alloc (.cells #[.int .u8 72, .int .u8 kd] 5))) := allocB _ _
        have Sy6 : Hid (∀ W', Below (y5.alloc (.cells #[.int .u8 72, .int .u8 kd] 5)).heap.size (y5.alloc (.cells #[.int .u8 72, .int .u8 kd] 5)) W' → (convert 32 9 (.slice (some ⟨y5.heap.size, 0, none⟩) 2 2)).run Tryd.prog W' = .ok (.string x1) W') := fun W' h => BC.out y5 W' h
        generalize (y5.alloc (.cells #[.int .u8 72, .int .u8 kd] 5)) = y6 at *
        have Qy6 : Hid (Below w2.heap.size w2 y6) := nextB Qy5.out By6.out
        refine hK.out _ _ ?_ (fun hX => ?_)
        · exact By6.out
        clear hK K hX hHeld
        try simp only [Act.put, List.setIfInBounds_toArray, List.set_cons_zero, List.set_cons_succ]
        refine wpAnyH_strong (S' := fun W => Below y6.heap.size y6 W) (fun W hW => nextB By6.out hW) _ _ _ _ ?_
        have hHeld : Below y6.heap.size y6 y6 := Below.refl _ _
        refine take2 rfl (i := 2) (v := .string x1) (d := 48) rfl rfl (by kernel_rfl) (by kernel_rfl) (by kernel_rfl) (fun _ _ _ h => h) (Or.inl ⟨by rfl, ?_⟩) (by exact hHeld) ?_
        · intro W hW
          try dsimp only at hW
          have st := Sy6.out W hW
          go_simp
        try simp only [Act.put, List.setIfInBounds_toArray, List.set_cons_zero, List.set_cons_succ]
        refine take2 rfl (i := 8) (v := .string (x1 ++ x2)) (d := 54) rfl rfl (by kernel_rfl) (by kernel_rfl) (by kernel_rfl) (fun _ _ _ h => h) (Or.inl ⟨by rfl, ?_⟩) (by exact hHeld) ?_
        · intro W hW
          try dsimp only at hW
          go_simp
        try simp only [Act.put, List.setIfInBounds_toArray, List.set_cons_zero, List.set_cons_succ]
        refine wpAnyH_ready (rs := [15]) (by kernel_rfl) (by simp) ?_
        refine cons2 rfl rfl (fun K hK => ?_)
        go_simp
        refine Calls.mono (KL2.out _) ?_
        rintro e y7 ⟨rfl, by_⟩
        have By7 : Hid (Below y6.heap.size y6 y7) := by_
        have Qy7 : Hid (Below w2.heap.size w2 y7) := nextB Qy6.out By7.out
        clear by_
        go_wp2_with fail
        refine hK.out _ _ ?_ (fun hX => ?_)
        · exact By7.out
        clear hK K hX hHeld
        try simp only [Act.put, List.setIfInBounds_toArray, List.set_cons_zero, List.set_cons_succ]
        refine wpAnyH_strong (S' := fun W => Below y7.heap.size y7 W) (fun W hW => nextB By7.out hW) _ _ _ _ ?_
        have hHeld : Below y7.heap.size y7 y7 := Below.refl _ _
        refine take2 rfl (i := 16) (v := .string (x1 ++ x2 ++ x3)) (d := 62) rfl rfl (by kernel_rfl) (by kernel_rfl) (by kernel_rfl) (fun _ _ _ h => h) (Or.inl ⟨by rfl, ?_⟩) (by exact hHeld) ?_
        · intro W hW
          try dsimp only at hW
          go_simp
        try simp only [Act.put, List.setIfInBounds_toArray, List.set_cons_zero, List.set_cons_succ]
        refine wpAnyH_ready (rs := [20]) (by kernel_rfl) (by simp) ?_
        refine cons2 rfl rfl (fun K hK => ?_)
        go_simp
        refine Calls.mono (KL3.out _) ?_
        rintro e y8 ⟨rfl, by_⟩
        have By8 : Hid (Below y7.heap.size y7 y8) := by_
        have Qy8 : Hid (Below w2.heap.size w2 y8) := nextB Qy7.out By8.out
        clear by_
        go_wp2_with fail
        refine hK.out _ _ ?_ (fun hX => ?_)
        · exact By8.out
        clear hK K hX hHeld
        try simp only [Act.put, List.setIfInBounds_toArray, List.set_cons_zero, List.set_cons_succ]
        refine wpAnyH_strong (S' := fun W => Below y8.heap.size y8 W) (fun W hW => nextB By8.out hW) _ _ _ _ ?_
        have hHeld : Below y8.heap.size y8 y8 := Below.refl _ _
        refine take2 rfl (i := 21) (v := .string (x1 ++ x2 ++ x3 ++ x4)) (d := 67) rfl rfl (by kernel_rfl) (by kernel_rfl) (by kernel_rfl) (fun _ _ _ h => h) (Or.inl ⟨by rfl, ?_⟩) (by exact hHeld) ?_
        · intro W hW
          try dsimp only at hW
          go_simp
        try simp only [Act.put, List.setIfInBounds_toArray, List.set_cons_zero, List.set_cons_succ]
        refine take2 rfl (i := 22) (v := .string (x1 ++ x2 ++ x3 ++ x4)) (d := 10) rfl rfl (by kernel_rfl) (by kernel_rfl) (by kernel_rfl) (fun _ _ _ h => h) (Or.inl ⟨by rfl, ?_⟩) (by exact hHeld) ?_
        · intro W hW
          try dsimp only at hW
          go_simp
        try simp only [Act.put, List.setIfInBounds_toArray, List.set_cons_zero, List.set_cons_succ]
        refine wpAnyH_done (by kernel_rfl) ?_ _
        go_wp2
        go_meet
        case rel => exact ⟨rfl, Qy8.out⟩
      · go_simp
        refine Calls.mono (KL2.out _) ?_
        rintro e y9 ⟨rfl, by_⟩
        have By9 : Hid (Below y5.heap.size y5 y9) := by_
        have Qy9 : Hid (Below w2.heap.size w2 y9) := nextB Qy5.out By9.out
        clear by_
        go_wp2_with fail
        refine hK.out _ _ ?_ (fun hX => ?_)
        · exact By9.out
        clear hK K hX hHeld
        try simp only [Act.put, List.setIfInBounds_toArray, List.set_cons_zero, List.set_cons_succ]
        refine wpAnyH_strong (S' := fun W => Below y9.heap.size y9 W) (fun W hW => nextB By9.out hW) _ _ _ _ ?_
        have hHeld : Below y9.heap.size y9 y9 := Below.refl _ _
        refine wpAnyH_ready (rs := [1, 20]) (by kernel_rfl) (by simp) ?_
        refine cons22 rfl rfl rfl (fun K hK => ?_) (fun K hK => ?_)
        · go_simp
          have By10 : Hid (Below y9.heap.size y9 (y9.alloc (.cells #[.int .u8 72, .int .u8 kd] 5))) := allocB _ _
          have Sy10 : Hid (∀ W', Below (y9.alloc (.cells #[.int .u8 72, .int .u8 kd] 5)).heap.size (y9.alloc (.cells #[.int .u8 72, .int .u8 kd] 5)) W' → (convert 32 9 (.slice (some ⟨y9.heap.size, 0, none⟩) 2 2)).run Tryd.prog W' = .ok (.string x1) W') := fun W' h => BC.out y9 W' h
          generalize (y9.alloc (.cells #[.int .u8 72, .int .u8 kd] 5)) = y10 at *
          have Qy10 : Hid (Below w2.heap.size w2 y10) := nextB Qy9.out By10.out
          refine hK.out _ _ ?_ (fun hX => ?_)
          · exact By10.out
          clear hK K hX hHeld
          try simp only [Act.put, List.setIfInBounds_toArray, List.set_cons_zero, List.set_cons_succ]
          refine wpAnyH_strong (S' := fun W => Below y10.heap.size y10 W) (fun W hW => nextB By10.out hW) _ _ _ _ ?_
          have hHeld : Below y10.heap.size y10 y10 := Below.refl _ _
          refine take2 rfl (i := 2) (v := .string x1) (d := 48) rfl rfl (by kernel_rfl) (by kernel_rfl) (by kernel_rfl) (fun _ _ _ h => h) (Or.inl ⟨by rfl, ?_⟩) (by exact hHeld) ?_
          · intro W hW
            try dsimp only at hW
            have st := Sy10.out W hW
            go_simp
          try simp only [Act.put, List.setIfInBounds_toArray, List.set_cons_zero, List.set_cons_succ]
          refine take2 rfl (i := 8) (v := .string (x1 ++ x2)) (d := 54) rfl rfl (by kernel_rfl) (by kernel_rfl) (by kernel_rfl) (fun _ _ _ h => h) (Or.inl ⟨by rfl, ?_⟩) (by exact hHeld) ?_
          · intro W hW
            try dsimp only at hW
            go_simp
          try simp only [Act.put, List.setIfInBounds_toArray, List.set_cons_zero, List.set_cons_succ]
          refine take2 rfl (i := 16) (v := .string (x1 ++ x2 ++ x3)) (d := 62) rfl rfl (by kernel_rfl) (by kernel_rfl) (by kernel_rfl) (fun _ _ _ h => h) (Or.inl ⟨by rfl, ?_⟩) (by exact hHeld) ?_
          · intro W hW
            try dsimp only at hW
            go_simp
          try simp only [Act.put, List.setIfInBounds_toArray, List.set_cons_zero, List.set_cons_succ]
          refine wpAnyH_ready (rs := [20]) (by kernel_rfl) (by simp) ?_
          refine cons2 rfl rfl (fun K hK => ?_)
          go_simp
          refine Calls.mono (KL3.out _) ?_
          rintro e y11 ⟨rfl, by_⟩
          have By11 : Hid (Below y10.heap.size y10 y11) := by_
          have Qy11 : Hid (Below w2.heap.size w2 y11) := nextB Qy10.out By11.out
          clear by_
          go_wp2_with fail
          refine hK.out _ _ ?_ (fun hX => ?_)
          · exact By11.out
          clear hK K hX hHeld
          try simp only [Act.put, List.setIfInBounds_toArray, List.set_cons_zero, List.set_cons_succ]
          refine wpAnyH_strong (S' := fun W => Below y11.heap.size y11 W) (fun W hW => nextB By11.out hW) _ _ _ _ ?_
          have hHeld : Below y11.heap.size y11 y11 := Below.refl _ _
          refine take2 rfl (i := 21) (v := .string (x1 ++ x2 ++ x3 ++ x4)) (d := 67) rfl rfl (by kernel_rfl) (by kernel_rfl) (by kernel_rfl) (fun _ _ _ h => h) (Or.inl ⟨by rfl, ?_⟩) (by exact hHeld) ?_
          · intro W hW
            try dsimp only at hW
            go_simp
          try simp only [Act.put, List.setIfInBounds_toArray, List.set_cons_zero, List.set_cons_succ]
          refine take2 rfl (i := 22) (v := .string (x1 ++ x2 ++ x3 ++ x4)) (d := 10) rfl rfl (by kernel_rfl) (by kernel_rfl) (by kernel_rfl) (fun _ _ _ h => h) (Or.inl ⟨by rfl, ?_⟩) (by exact hHeld) ?_
          · intro W hW
            try dsimp only at hW
            go_simp
          try simp only [Act.put, List.setIfInBounds_toArray, List.set_cons_zero, List.set_cons_succ]
          refine wpAnyH_done (by kernel_rfl) ?_ _
          go_wp2
          go_meet
          case rel => exact ⟨rfl, Qy11.out⟩
        · go_simp
          refine Calls.mono (KL3.out _) ?_
          rintro e y12 ⟨rfl, by_⟩
          have By12 : Hid (Below y9.heap.size y9 y12) := by_
          have Qy12 : Hid (Below w2.heap.size w2 y12) := nextB Qy9.out By12.out
          clear by_
          go_wp2_with fail
          refine hK.out _ _ ?_ (fun hX => ?_)
          · exact By12.out
          clear hK K hX hHeld
          try simp only [Act.put, List.setIfInBounds_toArray, List.set_cons_zero, List.set_cons_succ]
          refine wpAnyH_strong (S' := fun W => Below y12.heap.size y12 W) (fun W hW => nextB By12.out hW) _ _ _ _ ?_
          have hHeld : Below y12.heap.size y12 y12 := Below.refl _ _
          refine wpAnyH_ready (rs := [1]) (by kernel_rfl) (by simp) ?_
          refine cons2 rfl rfl (fun K hK => ?_)
          go_simp
          have By13 : Hid (Below y12.heap.size y12 (y12.alloc (.cells #[.int .u8 72, .int .u8 kd] 5))) := allocB _ _
          have Sy13 : Hid (∀ W', Below (y12.alloc (.cells #[.int .u8 72, .int .u8 kd] 5)).heap.size (y12.alloc (.cells #[.int .u8 72, .int .u8 kd] 5)) W' → (convert 32 9 (.slice (some ⟨y12.heap.size, 0, none⟩) 2 2)).run Tryd.prog W' = .ok (.string x1) W') := fun W' h => BC.out y12 W' h
          generalize (y12.alloc (.cells #[.int .u8 72, .int .u8 kd] 5)) = y13 at *
          have Qy13 : Hid (Below w2.heap.size w2 y13) := nextB Qy12.out By13.out
          refine hK.out _ _ ?_ (fun hX => ?_)
          · exact By13.out
          clear hK K hX hHeld
          try simp only [Act.put, List.setIfInBounds_toArray, List.set_cons_zero, List.set_cons_succ]
          refine wpAnyH_strong (S' := fun W => Below y13.heap.size y13 W) (fun W hW => nextB By13.out hW) _ _ _ _ ?_
          have hHeld : Below y13.heap.size y13 y13 := Below.refl _ _
          refine take2 rfl (i := 2) (v := .string x1) (d := 48) rfl rfl (by kernel_rfl) (by kernel_rfl) (by kernel_rfl) (fun _ _ _ h => h) (Or.inl ⟨by rfl, ?_⟩) (by exact hHeld) ?_
          · intro W hW
            try dsimp only at hW
            have st := Sy13.out W hW
            go_simp
          try simp only [Act.put, List.setIfInBounds_toArray, List.set_cons_zero, List.set_cons_succ]
          refine take2 rfl (i := 8) (v := .string (x1 ++ x2)) (d := 54) rfl rfl (by kernel_rfl) (by kernel_rfl) (by kernel_rfl) (fun _ _ _ h => h) (Or.inl ⟨by rfl, ?_⟩) (by exact hHeld) ?_
          · intro W hW
            try dsimp only at hW
            go_simp
          try simp only [Act.put, List.setIfInBounds_toArray, List.set_cons_zero, List.set_cons_succ]
          refine take2 rfl (i := 16) (v := .string (x1 ++ x2 ++ x3)) (d := 62) rfl rfl (by kernel_rfl) (by kernel_rfl) (by kernel_rfl) (fun _ _ _ h => h) (Or.inl ⟨by rfl, ?_⟩) (by exact hHeld) ?_
          · intro W hW
            try dsimp only at hW
            go_simp
          try simp only [Act.put, List.setIfInBounds_toArray, List.set_cons_zero, List.set_cons_succ]
          refine take2 rfl (i := 21) (v := .string (x1 ++ x2 ++ x3 ++ x4)) (d := 67) rfl rfl (by kernel_rfl) (by kernel_rfl) (by kernel_rfl) (fun _ _ _ h => h) (Or.inl ⟨by rfl, ?_⟩) (by exact hHeld) ?_
          · intro W hW
            try dsimp only at hW
            go_simp
          try simp only [Act.put, List.setIfInBounds_toArray, List.set_cons_zero, List.set_cons_succ]
          refine take2 rfl (i := 22) (v := .string (x1 ++ x2 ++ x3 ++ x4)) (d := 10) rfl rfl (by kernel_rfl) (by kernel_rfl) (by kernel_rfl) (fun _ _ _ h => h) (Or.inl ⟨by rfl, ?_⟩) (by exact hHeld) ?_
          · intro W hW
            try dsimp only at hW
            go_simp
          try simp only [Act.put, List.setIfInBounds_toArray, List.set_cons_zero, List.set_cons_succ]
          refine wpAnyH_done (by kernel_rfl) ?_ _
          go_wp2
          go_meet
          case rel => exact ⟨rfl, Qy13.out⟩

  case rest =>
    obtain ⟨rfl, BX⟩ := hcut
    rw [E4.out]
    clear s1 s2 s3 q1 q2 q3 q4 KL1 KL2 KL3 BC C3 C4 E4 wk wm
    clear x1 x2 x3 x4
    have KS : Hid (∀ W, _) := fun W => ksum_any (hd16 kd ar.life ar.fs.length b.length) b W (hd16_ok _ _ _ HKD.out) HB.out (by rw [hd16_len]; have := HM.out; omega)
    have E5 : Hid (strOfNums (hd16 kd ar.life ar.fs.length b.length) ++ strOfNums (lowB 4 (sum (hd16 kd ar.life ar.fs.length b.length ++ b))) = strOfNums (hd20 kd ar.life ar.fs.length b)) := str_app _ _
    have q1 : (strOfNums (hd16 kd ar.life ar.fs.length b.length)).size = 16 := by rw [str_size, hd16_len]
    have q2 : (strOfNums (lowB 4 (sum (hd16 kd ar.life ar.fs.length b.length ++ b)))).size = 4 := by rw [str_size, lowB_len]
    generalize strOfNums (hd16 kd ar.life ar.fs.length b.length) = x1 at *
    generalize strOfNums (lowB 4 (sum (hd16 kd ar.life ar.fs.length b.length ++ b))) = x2 at *
    have s1 : ¬ 9223372036854775807 < x1.size + x2.size := by omega
    go_wp2_with (go_at_call 44; refine Calls.mono (KS.out _) ?_; rintro e w3 ⟨rfl, b3⟩)
    rw [E5.out]
    have B3 : Hid (Below w.heap.size w w3) := nextB BW.out (nextB BX.out b3)
    clear b3 BX BW KS E5 q1 q2 s1 H2 D2 fl LX pl
    have q20 : (strOfNums (hd20 kd ar.life ar.fs.length b)).size = 20 := by rw [str_size, hd20_len]
    have I0 : Hid (BWr w3 w3 pb p q N ar (.slice a ar.fs.length cap) (ar.first + used ar.fs) (fsize b.length) (fsec kd ar.life ar.fs.length b) s s (fsize b.length)) := ⟨H.out.below B3.out, D.out.below B3.out, Ch1.refl _ _, rfl, Nat.le_refl _⟩
    have zp : (1 : Int) ≤ (fsize b.length : Int) := by have := fsize_pos b.length; omega
    have b1 : (b.length : Int) ≤ 1000 := by omega
    go_loopg [12] (fsize b.length) (fun g iv wr => g ≤ fsize b.length ∧ iv = .int .i64 ((g : Int) - 1) ∧ ∃ st, Hid (BWr w3 wr pb p q N ar (.slice a ar.fs.length cap) (ar.first + used ar.fs) (fsize b.length) (fsec kd ar.life ar.fs.length b) s st g))
    case atStart => exact ⟨Nat.le_refl _, rfl, s, I0.out⟩
    case round =>
      obtain ⟨hg, rfl, st, I⟩ := hrel
      clear I0
      rcases Nat.eq_zero_or_pos gk with q0 | qp
      · subst q0
        have IS : Hid (wrs N (ar.first + used ar.fs) (fsec kd ar.life ar.fs.length b) (fsize b.length) s = (0, st)) := I.out.go
        have AE : Hid (addG N s ar kd b = ⟨(used ar.fs : Nat), 0, st, { ar with fs := ar.fs ++ [⟨used ar.fs, kd, b⟩] }⟩) := by
          have e : addW N s ar kd b = (0, st) := IS.out
          show _ = _
          rw [addG_good HM.out HL.out HF.out (by rw [e]), e]
        have c4 := I.out.bm.c4
        have fz := I.out.bm.fz
        have pl := I.out.bm.lt
        have LF : Hid (ar.fs.length ≤ 4096) := OK.out.len
        have HX : Hid (faC ⟨used ar.fs, kd, b⟩ = [.int .i64 (used ar.fs : Nat), .int .u8 kd, .string (strOfNums b)]) := rfl
        generalize strOfNums b = xb at *
        go_wp2_with (at_builtin; refine wpList_append_lies (wr.alloc (.cells #[.int .i64 (used ar.fs : Nat), .int .u8 kd, .string xb] 89)) rfl (.tmp 128) (.tmp 133) 48 rfl 0 89 i0 _ 3 32 Tryd.underlying48 hi hz0 hz1 hz2 rfl (by decide) (.slice a ar.fs.length cap) ar.fs.length (faCs ar.fs) rfl (ownsBelow I.out.bm.own (allocB _ _)) ⟨wr.heap.size, 0, none⟩ 1 1 [.int .i64 (used ar.fs : Nat), .int .u8 kd, .string xb] rfl rfl (World.news_of_block (heap_alloc_last wr _)) (fun u hu => by simp at hu; rcases hu with rfl | rfl | rfl <;> rfl) (by decide) (by unfold maxLen; have := LF.out; omega) (by have := LF.out; omega) (Nat.zero_le _) _ rfl ?_; intro g6 cap6 x6 o6 gr6 hat6 _; rw [← HX.out] at o6; obtain ⟨j1, j2, j3, j4, j5⟩ := I.out.bm.next (allocB wr (.cells #[.int .i64 (used ar.fs : Nat), .int .u8 kd, .string xb] 89)) o6 gr6 (by simpa using hat6); have NX : Hid _ := And.intro j3 (And.intro j4 j5); have e5 : x6.cell? ⟨pb, 4, none⟩ = some (.slice a ar.fs.length cap) := (j1 4).trans I.out.bm.c4; clear o6 gr6 hat6 j1 j3 j4 j5)
        go_ret2
        rw [AE.out]
        have sv := SV.out
        have ne := NE.out
        have hs : w.heap.size ≤ wr.heap.size := Nat.le_trans B3.out.size I.out.ch.size
        refine ⟨rfl, I.out.kk.kept (NX.out.2.1.block p I.out.kk.ltp (fun c => ?_)) (NX.out.2.1.block q I.out.kk.ltq (fun c => ?_)), ⟨_, NX.out.1, ?_⟩, ((Ch1.of_below B3.out).trans (I.out.ch.mono (fun y hy => ?_))).trans (NX.out.2.1.mono (fun y hy => ?_))⟩
        · rcases List.mem_cons.1 c with e | e
          · exact ne.1 e.symm
          · exact (sv p (vb_mem.1 e)).1 rfl
        · rcases List.mem_cons.1 c with e | e
          · exact ne.2 e.symm
          · exact (sv q (vb_mem.1 e)).2 rfl
        · rcases NX.out.2.2 with e | e
          · exact Or.inl (by rw [e]; rfl)
          · exact Or.inr ⟨g6, rfl, by omega⟩
        · simp at hy ⊢; omega
        · exact List.mem_cons_of_mem _ (List.mem_cons_of_mem _ hy)
      · obtain ⟨k, rfl⟩ : ∃ k, gk = k + 1 := ⟨gk - 1, by omega⟩
        have ek : (((k + 1 : Nat) : Int) - 1) = (k : Int) := by omega
        rw [ek]
        clear ek qp
        have HK1 : Hid (k < fsize b.length) := by show _ < _; omega
        have k17 : (k : Int) < 17 := by omega
        clear hg
        go_upto_if 80 with fail
        go_cut [13, 14, 15, 16] from 79 to 106 (fun s13 s14 s15 s16 wx => s13 = .string (strOfNums (fsec kd ar.life ar.fs.length b k)) ∧ wx = wr)
        case first =>
          rcases Nat.eq_zero_or_pos k with k0 | kp
          · subst k0
            have FE : Hid (strOfNums (hd20 kd ar.life ar.fs.length b) ++ strOfNums (b.take 44) = strOfNums (fsec kd ar.life ar.fs.length b 0)) := str_app _ _
            by_cases q44 : 44 < b.length
            · have q44' : (44 : Int) < (b.length : Int) := by omega
              have ex1 : (strOfNums b).extract 0 44 = strOfNums (b.take 44) := by rw [str_seg]; rfl
              have z1 : (strOfNums (b.take 44)).size = 44 := by rw [str_size, List.length_take]; omega
              have s1 : ¬ 9223372036854775807 < (strOfNums (hd20 kd ar.life ar.fs.length b)).size + (strOfNums (b.take 44)).size := by omega
              generalize strOfNums (hd20 kd ar.life ar.fs.length b) = xh at *
              generalize strOfNums (b.take 44) = xt at *
              generalize strOfNums b = xb at *
              go_wp2
              go_meet
              case rel => exact ⟨by rw [FE.out], rfl⟩
            · have q44' : ¬ (44 : Int) < (b.length : Int) := by omega
              have ex1 : (strOfNums b).extract 0 b.length = strOfNums (b.take 44) := by rw [str_seg]; unfold seg; rw [List.drop_zero, Nat.sub_zero, List.take_of_length_le (Nat.le_refl _), List.take_of_length_le (by omega)]
              have z1 : (strOfNums (b.take 44)).size = b.length := by rw [str_size, List.length_take]; omega
              have s1 : ¬ 9223372036854775807 < (strOfNums (hd20 kd ar.life ar.fs.length b)).size + (strOfNums (b.take 44)).size := by omega
              generalize strOfNums (hd20 kd ar.life ar.fs.length b) = xh at *
              generalize strOfNums (b.take 44) = xt at *
              generalize strOfNums b = xb at *
              go_wp2
              go_meet
              case rel => exact ⟨by rw [FE.out], rfl⟩
          · have kp' : ((k : Int) == 0) = false := beq_eq_false_iff_ne.2 (by omega)
            obtain ⟨F, hF⟩ : ∃ F : Nat, F = 44 + 63 * (k - 1) := ⟨_, rfl⟩
            have eF : 44 + 63 * ((k : Int) - 1) = (F : Int) := by omega
            have lF : F < b.length := by rw [hF]; exact fsize_in HK1.out kp
            have lF' : (F : Int) < (b.length : Int) := by omega
            have FE : Hid (fsec kd ar.life ar.fs.length b k = 67 :: seg b F 63) := by rw [hF]; exact fsec_mid kp
            have FX : Hid (strOfNums [67] ++ strOfNums (seg b F 63) = strOfNums (67 :: seg b F 63)) := str_app _ _
            have F67 : Hid ((⟨#[67]⟩ : ByteArray) = strOfNums [67]) := by show _ = _; kernel_rfl
            clear hF
            by_cases q63 : b.length < F + 63
            · have q63' : (b.length : Int) < (F : Int) + 63 := by omega
              have ex1 : (strOfNums b).extract F b.length = strOfNums (seg b F 63) := by rw [str_seg, seg_end (n := 63) (by omega)]
              have z1 : (strOfNums (seg b F 63)).size ≤ 63 := by rw [str_size]; unfold seg; rw [List.length_take]; omega
              have s1 : ¬ 9223372036854775807 < 1 + (strOfNums (seg b F 63)).size := by omega
              generalize strOfNums (seg b F 63) = xt at *
              generalize strOfNums b = xb at *
              go_wp2
              go_meet
              case rel => exact ⟨by rw [FE.out, ← FX.out, ← F67.out], rfl⟩
            · have q63' : ¬ (b.length : Int) < (F : Int) + 63 := by omega
              have ex1 : (strOfNums b).extract F (F + 63) = strOfNums (seg b F 63) := by rw [str_seg, Nat.add_sub_cancel_left]
              have z1 : (strOfNums (seg b F 63)).size ≤ 63 := by rw [str_size]; unfold seg; rw [List.length_take]; omega
              have s1 : ¬ 9223372036854775807 < 1 + (strOfNums (seg b F 63)).size := by omega
              generalize strOfNums (seg b F 63) = xt at *
              generalize strOfNums b = xb at *
              go_wp2
              go_meet
              case rel => exact ⟨by rw [FE.out, ← FX.out, ← F67.out], rfl⟩
        case rest =>
          obtain ⟨rfl, hw⟩ := hcut
          have hw' := hw.symm
          clear hw
          subst hw'
          have c0 := I.out.bm.c0
          have c1 := I.out.bm.c1
          have v1 : (ar.first : Int) + (used ar.fs : Int) ≤ 4096 := by have := OK.out.far; have := OK.out.big; have := OK.out.fit; omega
          have HW1 : Hid (st.writes ≤ 1000000) := by show _ ≤ _; have := I.out.wr; have := HW.out; have := fsize_le HM.out; omega
          have SB : Hid (Bys (fsec kd ar.life ar.fs.length b k) ∧ (fsec kd ar.life ar.fs.length b k).length ≤ 64) := ⟨fsec_ok _ _ HKD.out HB.out k, fsec_len _ _ _ _ k⟩
          have KW : Hid (Calls Tryd.prog 23 #[.pointer (some ⟨p, 0, none⟩), .int .i64 ((ar.first : Int) + (used ar.fs : Int) + (k : Int)), .string (strOfNums (fsec kd ar.life ar.fs.length b k))] wr.drew fun e w' => e = .returned (.int .i64 (wE N st ((ar.first + used ar.fs + k : Nat) : Int) (fsec kd ar.life ar.fs.length b k))) ∧ Kk w' p q N (wS N st ((ar.first + used ar.fs + k : Nat) : Int) (fsec kd ar.life ar.fs.length b k)) ∧ Gr p q wr.drew w') := by
            have ei : (ar.first : Int) + (used ar.fs : Int) + (k : Int) = ((ar.first + used ar.fs + k : Nat) : Int) := by omega
            rw [ei]
            exact KWrite_any p q N st _ _ _ (I.out.kk.below ((Below.refl _ _).drew)) SB.out.1 (by have := SB.out.2; omega) HW1.out
          have GO : Hid (wE N st ((ar.first + used ar.fs + k : Nat) : Int) (fsec kd ar.life ar.fs.length b k) = 0 → wrs N (ar.first + used ar.fs) (fsec kd ar.life ar.fs.length b) (k + 1) st = wrs N (ar.first + used ar.fs) (fsec kd ar.life ar.fs.length b) k (wS N st ((ar.first + used ar.fs + k : Nat) : Int) (fsec kd ar.life ar.fs.length b k))) := fun h => wrs_go h
          have EN : Hid (wE N st ((ar.first + used ar.fs + k : Nat) : Int) (fsec kd ar.life ar.fs.length b k) ≠ 0 → wrs N (ar.first + used ar.fs) (fsec kd ar.life ar.fs.length b) (k + 1) st = (wE N st ((ar.first + used ar.fs + k : Nat) : Int) (fsec kd ar.life ar.fs.length b k), wS N st ((ar.first + used ar.fs + k : Nat) : Int) (fsec kd ar.life ar.fs.length b k))) := fun h => wrs_end h
          have WR : Hid ((wS N st ((ar.first + used ar.fs + k : Nat) : Int) (fsec kd ar.life ar.fs.length b k)).writes ≤ st.writes + 1) := (wS_wr _ _ _ _).1
          generalize wE N st ((ar.first + used ar.fs + k : Nat) : Int) (fsec kd ar.life ar.fs.length b k) = ee at *
          generalize wS N st ((ar.first + used ar.fs + k : Nat) : Int) (fsec kd ar.life ar.fs.length b k) = st1 at *
          generalize strOfNums (fsec kd ar.life ar.fs.length b k) = xs at *
          go_upto_region 25 with fail
          refine wp_region_held_drew (S := fun W => W.cell? ⟨pb, 0, none⟩ = some (.pointer (some ⟨p, 0, none⟩)) ∧ W.cell? ⟨pb, 1, none⟩ = some (.int .i64 (ar.first : Nat))) (by kernel_rfl) (⟨c0, c1⟩) (fun hHeld => ?_)
          refine take2 rfl (i := 0) (v := .pointer (some ⟨pb, 0, none⟩)) (d := 107) rfl rfl (by kernel_rfl) (by kernel_rfl) (by kernel_rfl) (fun _ _ _ h => h) (Or.inl ⟨by rfl, ?_⟩) (by exact hHeld) ?_
          · intro W hW
            try dsimp only at hW
            go_simp
          try simp only [Act.put, List.setIfInBounds_toArray, List.set_cons_zero, List.set_cons_succ]
          refine take2 rfl (i := 1) (v := .pointer (some ⟨pb, 0, none⟩)) (d := 108) rfl rfl (by kernel_rfl) (by kernel_rfl) (by kernel_rfl) (fun _ _ _ h => h) (Or.inl ⟨by rfl, ?_⟩) (by exact hHeld) ?_
          · intro W hW
            try dsimp only at hW
            obtain ⟨hS0, hS1⟩ := hW
            go_simp
          try simp only [Act.put, List.setIfInBounds_toArray, List.set_cons_zero, List.set_cons_succ]
          refine take2 rfl (i := 2) (v := .pointer (some ⟨pb, 0, none⟩)) (d := 109) rfl rfl (by kernel_rfl) (by kernel_rfl) (by kernel_rfl) (fun _ _ _ h => h) (Or.inl ⟨by rfl, ?_⟩) (by exact hHeld) ?_
          · intro W hW
            try dsimp only at hW
            go_simp
          try simp only [Act.put, List.setIfInBounds_toArray, List.set_cons_zero, List.set_cons_succ]
          refine take2 rfl (i := 3) (v := .pointer (some ⟨p, 0, none⟩)) (d := 110) rfl rfl (by kernel_rfl) (by kernel_rfl) (by kernel_rfl) (fun _ _ _ h => h) (Or.inl ⟨by rfl, ?_⟩) (by exact hHeld) ?_
          · intro W hW
            try dsimp only at hW
            obtain ⟨hS0, hS1⟩ := hW
            go_simp
          try simp only [Act.put, List.setIfInBounds_toArray, List.set_cons_zero, List.set_cons_succ]
          refine take2 rfl (i := 4) (v := .pointer (some ⟨pb, 0, none⟩)) (d := 111) rfl rfl (by kernel_rfl) (by kernel_rfl) (by kernel_rfl) (fun _ _ _ h => h) (Or.inl ⟨by rfl, ?_⟩) (by exact hHeld) ?_
          · intro W hW
            try dsimp only at hW
            go_simp
          try simp only [Act.put, List.setIfInBounds_toArray, List.set_cons_zero, List.set_cons_succ]
          refine take2 rfl (i := 5) (v := .pointer (some ⟨pb, 0, none⟩)) (d := 112) rfl rfl (by kernel_rfl) (by kernel_rfl) (by kernel_rfl) (fun _ _ _ h => h) (Or.inl ⟨by rfl, ?_⟩) (by exact hHeld) ?_
          · intro W hW
            try dsimp only at hW
            obtain ⟨hS0, hS1⟩ := hW
            go_simp
          try simp only [Act.put, List.setIfInBounds_toArray, List.set_cons_zero, List.set_cons_succ]
          refine take2 rfl (i := 6) (v := .pointer (some ⟨pb, 1, none⟩)) (d := 113) rfl rfl (by kernel_rfl) (by kernel_rfl) (by kernel_rfl) (fun _ _ _ h => h) (Or.inl ⟨by rfl, ?_⟩) (by exact hHeld) ?_
          · intro W hW
            try dsimp only at hW
            go_simp
          try simp only [Act.put, List.setIfInBounds_toArray, List.set_cons_zero, List.set_cons_succ]
          refine take2 rfl (i := 7) (v := .int .i64 (ar.first : Nat)) (d := 114) rfl rfl (by kernel_rfl) (by kernel_rfl) (by kernel_rfl) (fun _ _ _ h => h) (Or.inl ⟨by rfl, ?_⟩) (by exact hHeld) ?_
          · intro W hW
            try dsimp only at hW
            obtain ⟨hS0, hS1⟩ := hW
            go_simp
          try simp only [Act.put, List.setIfInBounds_toArray, List.set_cons_zero, List.set_cons_succ]
          refine take2 rfl (i := 8) (v := .int .i64 (used ar.fs : Nat)) (d := 115) rfl rfl (by kernel_rfl) (by kernel_rfl) (by kernel_rfl) (fun _ _ _ h => h) (Or.inl ⟨by rfl, ?_⟩) (by exact hHeld) ?_
          · intro W hW
            try dsimp only at hW
            go_simp
          try simp only [Act.put, List.setIfInBounds_toArray, List.set_cons_zero, List.set_cons_succ]
          refine take2 rfl (i := 9) (v := .int .i64 ((ar.first : Int) + (used ar.fs : Int))) (d := 116) rfl rfl (by kernel_rfl) (by kernel_rfl) (by kernel_rfl) (fun _ _ _ h => h) (Or.inl ⟨by rfl, ?_⟩) (by exact hHeld) ?_
          · intro W hW
            try dsimp only at hW
            have hw : IntKind.i64.wrap ((ar.first : Int) + (used ar.fs : Int)) = (ar.first : Int) + (used ar.fs : Int) := by rw [IntKind.wrap_i64]; omega
            go_simp
          try simp only [Act.put, List.setIfInBounds_toArray, List.set_cons_zero, List.set_cons_succ]
          refine take2 rfl (i := 10) (v := .int .i64 (k : Nat)) (d := 117) rfl rfl (by kernel_rfl) (by kernel_rfl) (by kernel_rfl) (fun _ _ _ h => h) (Or.inl ⟨by rfl, ?_⟩) (by exact hHeld) ?_
          · intro W hW
            try dsimp only at hW
            go_simp
          try simp only [Act.put, List.setIfInBounds_toArray, List.set_cons_zero, List.set_cons_succ]
          refine take2 rfl (i := 11) (v := .int .i64 ((ar.first : Int) + (used ar.fs : Int) + (k : Int))) (d := 118) rfl rfl (by kernel_rfl) (by kernel_rfl) (by kernel_rfl) (fun _ _ _ h => h) (Or.inl ⟨by rfl, ?_⟩) (by exact hHeld) ?_
          · intro W hW
            try dsimp only at hW
            have hw : IntKind.i64.wrap ((ar.first : Int) + (used ar.fs : Int) + (k : Int)) = (ar.first : Int) + (used ar.fs : Int) + (k : Int) := by rw [IntKind.wrap_i64]; omega
            go_simp
          try simp only [Act.put, List.setIfInBounds_toArray, List.set_cons_zero, List.set_cons_succ]
          refine take2 rfl (i := 12) (v := .string xs) (d := 119) rfl rfl (by kernel_rfl) (by kernel_rfl) (by kernel_rfl) (fun _ _ _ h => h) (Or.inl ⟨by rfl, ?_⟩) (by exact hHeld) ?_
          · intro W hW
            try dsimp only at hW
            go_simp
          try simp only [Act.put, List.setIfInBounds_toArray, List.set_cons_zero, List.set_cons_succ]
          refine wpAnyH_ready (rs := [13]) (by kernel_rfl) (by simp) ?_
          refine cons2 rfl rfl (fun K hK => ?_)
          go_simp
          refine Calls.mono KW.out ?_
          rintro e w5 ⟨rfl, k5, g5⟩
          have J : Hid (Bm w5 pb p ar (.slice a ar.fs.length cap) ∧ Kk w5 p q N st1 ∧ Ch1 [p, q] w3 w5) := ⟨I.out.bm.kept (g5.block pb I.out.bm.lt NE.out.1 NE.out.2) (fun g hg => g5.block g (owns_lt I.out.bm.own hg).1 (SV.out g hg).1 (SV.out g hg).2), k5, I.out.ch.trans ((Ch1.of_below ((Below.refl wr.heap.size wr).drew)).trans (Ch1.of_gr g5))⟩
          clear k5 g5
          go_wp2_with fail
          refine hK.out _ _ ?_ (fun hX => ?_)
          · exact ⟨J.out.1.c0, J.out.1.c1⟩
          clear hK K hX
          try simp only [Act.put, List.setIfInBounds_toArray, List.set_cons_zero, List.set_cons_succ]
          clear hHeld
          have hHeld : w5.cell? ⟨pb, 0, none⟩ = some (.pointer (some ⟨p, 0, none⟩)) ∧ w5.cell? ⟨pb, 1, none⟩ = some (.int .i64 (ar.first : Nat)) := ⟨J.out.1.c0, J.out.1.c1⟩
          refine take2 rfl (i := 14) (v := .int .i64 ee) (d := 17) rfl rfl (by kernel_rfl) (by kernel_rfl) (by kernel_rfl) (fun _ _ _ h => h) (Or.inl ⟨by rfl, ?_⟩) (by exact hHeld) ?_
          · intro W hW
            try dsimp only at hW
            go_simp
          try simp only [Act.put, List.setIfInBounds_toArray, List.set_cons_zero, List.set_cons_succ]
          refine wpAnyH_done (by kernel_rfl) ?_ _
          clear hHeld
          by_cases e0 : ee = 0
          · have e0' : (ee != 0) = false := by rw [bne_eq_false_iff_eq]; exact e0
            have E0 : Hid (ee = 0) := e0
            clear e0
            go_wp2
            go_roundg k
            case measure => omega
            case rel => exact ⟨by have := HK1.out; omega, rfl, st1, J.out.1, J.out.2.1, J.out.2.2, I.out.go.trans (GO.out E0.out), by have := I.out.wr; have := WR.out; omega⟩
          · have e0' : (ee != 0) = true := by rw [bne_iff_ne]; exact e0
            have AE : Hid (addG N s ar kd b = ⟨0, ee, st1, ar⟩) := by
              have e : addW N s ar kd b = (ee, st1) := I.out.go.trans (EN.out e0)
              show _ = _
              rw [addG_bad HM.out HL.out HF.out (by rw [e]; exact e0), e]
            clear e0
            go_wp2
            go_ret2
            rw [AE.out]
            exact ⟨rfl, J.out.2.1, ⟨_, J.out.1, Or.inl rfl⟩, (Ch1.of_below B3.out).trans (J.out.2.2.mono (fun y hy => by simp at hy ⊢; omega))⟩

end Go.Proofs.YtblmfkdcahhhbaaDoor
