/- Plain mathematics of frames: what is written is read back; what a cut leaves; what is found. No program in it. -/
import Derived.Test.YtblmfkdcahhhbaaDoorI2
namespace Go.Proofs.YtblmfkdcahhhbaaDoor
open Go.RowKit
set_option linter.unusedVariables false
set_option linter.unusedSimpArgs false

/-- A frame's sectors lie there. -/
def lies (sec : Nat → List Int) (i : Nat) (kind : Int) (life num : Nat) (b : List Int) : Prop := ∀ k, k < fsize b.length → sec (i + k) = pad (fsec kind life num b k)
theorem seg_app_left {a b : List Int} {i n : Nat} (h : i + n ≤ a.length) : seg (a ++ b) i n = seg a i n := by
  unfold seg
  rw [List.drop_append_of_le_length (by omega), List.take_append_of_le_length (by rw [List.length_drop]; omega)]
theorem seg_mid (a b c : List Int) {i n : Nat} (hi : a.length = i) (hn : b.length = n) : seg (a ++ (b ++ c)) i n = b := by
  unfold seg
  rw [← hi, List.drop_left, ← hn, List.take_left]
theorem fsec_head (kind : Int) (life num : Nat) (b : List Int) : pad (fsec kind life num b 0) = hd16 kind life num b.length ++ (lowB 4 (sum (hd16 kind life num b.length ++ b)) ++ (b.take 44 ++ List.replicate (64 - (20 + (b.take 44).length)) 0)) := by
  unfold pad
  rw [fsec, List.length_append, hd20_len, hd20]
  simp [List.append_assoc]
theorem sum_lt (l : List Int) : sum l < 4294967296 := by unfold sum; omega
theorem hd16_split (kind : Int) (life num len : Nat) : hd16 kind life num len = [72, kind] ++ (lowB 8 life ++ (lowB 4 num ++ lowB 2 len)) := rfl
theorem lies_head {kind : Int} {life num : Nat} {b : List Int} {h : List Int} (e : h = pad (fsec kind life num b 0)) (hl : life < 18446744073709551616) (hn : num < 4294967296) (hb : b.length ≤ 1000) :
    h.getD 0 0 = 72 ∧ h.getD 1 0 = kind ∧ hLife h = life ∧ hNum h = num ∧ hN h = b.length ∧ h.take 16 = hd16 kind life num b.length ∧ hSum h = sum (hd16 kind life num b.length ++ b) := by
  rw [fsec_head] at e
  subst e
  have l16 := hd16_len kind life num b.length
  refine ⟨rfl, rfl, ?_, ?_, ?_, ?_, ?_⟩
  · unfold hLife
    rw [seg_app_left (by omega), hd16_split, seg_mid [72, kind] (lowB 8 life) _ (i := 2) rfl (lowB_len _ _), upB_lowB 8 life hl]
  · unfold hNum
    rw [seg_app_left (by omega), hd16_split, ← List.append_assoc, seg_mid _ (lowB 4 num) _ (by simp [lowB_len]) (lowB_len _ _), upB_lowB 4 num hn]
  · unfold hN
    rw [seg_app_left (by omega), hd16_split, ← List.append_assoc, ← List.append_assoc]
    have := seg_mid ([72, kind] ++ lowB 8 life ++ lowB 4 num) (lowB 2 b.length) [] (i := 14) (n := 2) (by simp [lowB_len]) (lowB_len _ _)
    rw [List.append_nil] at this
    rw [this, upB_lowB 2 b.length (by omega)]
  · rw [List.take_left' l16]
  · unfold hSum
    rw [seg_mid _ _ _ l16 (lowB_len _ _), upB_lowB 4 _ (sum_lt _)]
theorem cat_lies {sec : Nat → List Int} {i : Nat} {kind : Int} {life num : Nat} {b : List Int} (h : lies sec i kind life num b) : ∀ k, k < fsize b.length → cat sec i k = b.take (44 + 63 * k) ++ List.replicate (44 + 63 * k - b.length) 0
  | 0, hk => by
    have e := h 0 hk
    rw [Nat.add_zero, fsec_head] at e
    rw [cat, e, ← List.append_assoc, List.drop_left' (by simp [hd16_len, lowB_len])]
    congr 2
    simp; omega
  | k + 1, hk => by
    have e := h (k + 1) hk
    have hl : 44 + 63 * k < b.length := by unfold fsize at hk; omega
    rw [cat, cat_lies h k (by omega), e]
    have e1 : 44 + 63 * k - b.length = 0 := by omega
    rw [e1, List.replicate_zero, List.append_nil]
    unfold pad
    rw [fsec, List.length_cons, List.cons_append, List.drop_succ_cons, List.drop_zero, ← List.append_assoc]
    congr 1
    · rw [show 44 + 63 * (k + 1) = (44 + 63 * k) + 63 by omega]
      generalize 44 + 63 * k = m
      rw [List.take_add]
    · congr 1
      rw [List.length_take, List.length_drop]; omega
theorem payB_lies {sec : Nat → List Int} {i : Nat} {kind : Int} {life num : Nat} {b : List Int} (h : lies sec i kind life num b) (hn : hN (sec i) = b.length) : payB sec i = b := by
  have hp := fsize_pos b.length
  unfold payB
  rw [hn, cat_lies h _ (by omega), List.take_append_of_le_length (by rw [List.length_take]; have := @fsize_holds b.length; omega), List.take_take, List.take_of_length_le (by have := @fsize_holds b.length; omega)]
theorem ok67_lies {sec : Nat → List Int} {i : Nat} {kind : Int} {life num : Nat} {b : List Int} (h : lies sec i kind life num b) : ∀ k, k < fsize b.length → ok67 sec i k = true
  | 0, _ => rfl
  | k + 1, hk => by
    rw [ok67, ok67_lies h k (by omega), h (k + 1) hk]
    rfl
/-- What lies there is read back. -/
theorem rdB_lies {sec : Nat → List Int} {i room : Nat} {kind : Int} {life num : Nat} {b : List Int} (h : lies sec i kind life num b) (hl : life < 18446744073709551616) (hn : num < 4294967296) (hb : b.length ≤ 1000) (hr : fsize b.length ≤ room) : rdB sec i room = some ⟨kind, life, num, b⟩ := by
  have hp := fsize_pos b.length
  have e0 := h 0 (by omega)
  rw [Nat.add_zero] at e0
  obtain ⟨h1, h2, h3, h4, h5, h6, h7⟩ := lies_head e0 hl hn hb
  have hpay := payB_lies h h5
  rw [rdB_is, h2, h3, h4, hpay]
  refine ⟨h1, by rw [h5]; exact hb, by rw [h5]; exact hr, by rw [h5]; exact ok67_lies h _ (by omega), by rw [hpay, h6, h7]⟩
theorem rdB_quiet {sec : Nat → List Int} {i room : Nat} (h : (sec i).getD 0 0 ≠ 72) : rdB sec i room = none := rdB_none fun k => h k.1

/-- Sectors from i on are written over. -/
def over (sec : Nat → List Int) (i lo n : Nat) (f : Nat → List Int) : Nat → List Int := fun j => if i + lo ≤ j ∧ j < i + n then pad (f (j - i)) else sec j
theorem over_none (sec : Nat → List Int) (i n : Nat) (f : Nat → List Int) : over sec i n n f = sec := by
  funext j; unfold over; rw [if_neg (by omega)]
theorem over_put (sec : Nat → List Int) (i lo n : Nat) (f : Nat → List Int) (h : lo < n) : upd (over sec i (lo + 1) n f) (i + lo) (pad (f lo)) = over sec i lo n f := by
  funext j
  unfold upd over
  by_cases e : j = i + lo
  · subst e; rw [if_pos rfl, if_pos (by omega)]; congr 2; omega
  · rw [if_neg e]
    by_cases c : i + lo ≤ j ∧ j < i + n
    · rw [if_pos c, if_pos (by omega)]
    · rw [if_neg c, if_neg (by omega)]
/-- How far writes that go well have come. -/
theorem wrs_upto {N i : Nat} {f : Nat → List Int} {s : St} (on : s.on = true) (hf : ∀ k, (f k).length ≤ 64) : ∀ m n, i + (m + n) ≤ N → (s.left = 0 ∨ n < s.left) →
    wrs N i f (m + n) s = wrs N i f m { s with sec := over s.sec i m (m + n) f, writes := s.writes + n, left := s.left - n }
  | m, 0, _, _ => by
    rw [Nat.add_zero, over_none]
    rfl
  | m, n + 1, hN, hl => by
    have ih := wrs_upto (N := N) (i := i) on hf (m + 1) n (by omega) (by omega)
    rw [show m + (n + 1) = m + 1 + n by omega, ih]
    have w := wE_well (n := N) (s := { s with sec := over s.sec i (m + 1) (m + 1 + n) f, writes := s.writes + n, left := s.left - n }) (i := ((i + m : Nat) : Int)) (b := f m) ⟨by unfold has; exact decide_eq_true (by omega), hf m⟩ on (by show s.left - n ≠ 1; omega)
    rw [wrs_go w.1, w.2]
    congr 1
    unfold St.well St.put
    simp only [Int.toNat_natCast]
    rw [over_put _ _ _ _ _ (by omega)]
    congr 1
theorem wrs_well {N i n : Nat} {f : Nat → List Int} {s : St} (on : s.on = true) (hf : ∀ k, (f k).length ≤ 64) (hN : i + n ≤ N) (hl : s.left = 0 ∨ n < s.left) :
    wrs N i f n s = (0, { s with sec := over s.sec i 0 n f, writes := s.writes + n, left := s.left - n }) := by
  have := wrs_upto (N := N) (i := i) on hf 0 n (by omega) hl
  rw [Nat.zero_add] at this
  rw [this]; rfl
theorem wrs_stop {N i n : Nat} {f : Nat → List Int} {s : St} (on : s.on = true) (hf : ∀ k, (f k).length ≤ 64) (hN : i + n ≤ N) (h1 : 1 ≤ s.left) (h2 : s.left ≤ n) :
    wrs N i f n s = (4, { s with sec := over s.sec i (if s.late = true then n - s.left else n - s.left + 1) n f, writes := s.writes + (s.left - 1), on := false, left := 0 }) := by
  have := wrs_upto (N := N) (i := i) on hf (n - s.left + 1) (s.left - 1) (by omega) (by omega)
  rw [show n - s.left + 1 + (s.left - 1) = n by omega] at this
  rw [this]
  have w := wE_cut (n := N) (s := { s with sec := over s.sec i (n - s.left + 1) n f, writes := s.writes + (s.left - 1), left := s.left - (s.left - 1) }) (i := ((i + (n - s.left) : Nat) : Int)) (b := f (n - s.left)) ⟨by unfold has; exact decide_eq_true (by omega), hf _⟩ on (by show s.left - (s.left - 1) = 1; omega)
  rw [wrs_end (by rw [w.1]; decide), w.1, w.2]
  congr 1
  by_cases c : s.late = true
  · rw [if_pos c, if_pos (by exact c)]
    unfold St.put
    simp only [Int.toNat_natCast]
    rw [over_put _ _ _ _ _ (by omega)]
  · rw [if_neg c, if_neg (by exact c)]
theorem wrs_dead {N i n : Nat} {f : Nat → List Int} {s : St} (on : s.on = false) (hf : ∀ k, (f k).length ≤ 64) (hN : i + n ≤ N) (h1 : 1 ≤ n) : wrs N i f n s = (4, s) := by
  obtain ⟨k, rfl⟩ : ∃ k, n = k + 1 := ⟨n - 1, by omega⟩
  have w := wE_off (n := N) (s := s) (i := ((i + k : Nat) : Int)) (b := f k) ⟨by unfold has; exact decide_eq_true (by omega), hf k⟩ on
  rw [wrs_end (by rw [w.1]; decide), w.1, w.2]
theorem over_lies (sec : Nat → List Int) (i : Nat) (kind : Int) (life num : Nat) (b : List Int) : lies (over sec i 0 (fsize b.length) (fsec kind life num b)) i kind life num b := fun k hk => by
  unfold over; rw [if_pos (by omega)]; congr 2; omega
theorem over_off {sec : Nat → List Int} {i lo n : Nat} {f : Nat → List Int} {j : Nat} (h : j < i + lo ∨ i + n ≤ j) : over sec i lo n f j = sec j := by unfold over; rw [if_neg (by omega)]

/-- The frames of a life lie there. -/
structure Laid (sec : Nat → List Int) (first life : Nat) (fs : List Fa) : Prop where
  pos : laidP fs
  at_ : ∀ i (h : i < fs.length), lies sec (first + (fs[i]).pos) (fs[i]).kind life i (fs[i]).pay
  ok : ∀ f ∈ fs, f.pay.length ≤ 1000
theorem Laid.nil (sec : Nat → List Int) (first life : Nat) : Laid sec first life [] := ⟨laidP_nil, fun i h => absurd h (Nat.not_lt_zero _), fun f hf => by cases hf⟩
theorem lies_congr {sec sec' : Nat → List Int} {i : Nat} {kind : Int} {life num : Nat} {b : List Int} (h : lies sec i kind life num b) (hs : ∀ j, j < i + fsize b.length → sec' j = sec j) : lies sec' i kind life num b := fun k hk => by
  rw [hs (i + k) (by omega)]; exact h k hk
theorem Laid.congr {sec sec' : Nat → List Int} {first life : Nat} {fs : List Fa} (h : Laid sec first life fs) (hs : ∀ j, j < first + used fs → sec' j = sec j) : Laid sec' first life fs :=
  ⟨h.pos, fun i hi => lies_congr (h.at_ i hi) (fun j hj => hs j (by have := h.pos.room hi; omega)), h.ok⟩
theorem Laid.snoc {sec : Nat → List Int} {first life : Nat} {fs : List Fa} {f : Fa} (h : Laid sec first life fs) (hp : f.pos = used fs) (hl : lies sec (first + used fs) f.kind life fs.length f.pay) (ho : f.pay.length ≤ 1000) : Laid sec first life (fs ++ [f]) := by
  refine ⟨laidP_snoc h.pos hp, fun i hi => ?_, fun g hg => ?_⟩
  · rw [List.length_append, List.length_singleton] at hi
    rcases Nat.lt_or_ge i fs.length with q | q
    · rw [List.getElem_append_left q]; exact h.at_ i q
    · obtain rfl : i = fs.length := by omega
      rw [List.getElem_append_right (Nat.le_refl _)]
      simp only [Nat.sub_self, List.getElem_singleton]
      rw [hp]; exact hl
  · rcases List.mem_append.1 hg with q | q
    · exact h.ok g q
    · simp at q; subst q; exact ho
theorem Laid.rd {sec : Nat → List Int} {first life count : Nat} {fs : List Fa} (h : Laid sec first life fs) (hl : life < 18446744073709551616) (hc : used fs ≤ count) (hn : fs.length < 4294967296) {i : Nat} (hi : i < fs.length) : rdB sec (first + (fs[i]).pos) (count - (fs[i]).pos) = some ⟨(fs[i]).kind, life, i, (fs[i]).pay⟩ :=
  rdB_lies (h.at_ i hi) hl (by omega) (h.ok _ (List.getElem_mem hi)) (by have := h.pos.room hi; omega)
/-- None follows. -/
def Stop (sec : Nat → List Int) (first count life : Nat) (fs : List Fa) : Prop := ∀ f, rdB sec (first + used fs) (count - used fs) = some f → ¬ ((fs.length = 0 ∨ f.life = life) ∧ f.num = fs.length)
theorem fnd_stop {sec : Nat → List Int} {first count life : Nat} {fs : List Fa} (h : Stop sec first count life fs) (k : Nat) : fnd sec first count k life fs = (life, fs) := by
  cases e : rdB sec (first + used fs) (count - used fs) with
  | none => exact fnd_none e k
  | some f => exact fnd_no e (h f e) k
theorem Laid.fnd_from {sec : Nat → List Int} {first life count : Nat} {fs : List Fa} (h : Laid sec first life fs) (hl : life < 18446744073709551616) (hc : used fs ≤ count) (hn : fs.length < 4294967296) (hs : Stop sec first count life fs) : ∀ (d j k : Nat), j + d = fs.length → d ≤ k → ∀ life', (0 < j → life' = life) → (d = 0 → life' = life) → fnd sec first count k life' (fs.take j) = (life, fs)
  | 0, j, k, hj, hk, life', e, e0 => by
    obtain rfl := e0 rfl
    rw [show j = fs.length by omega, List.take_length]
    exact fnd_stop hs k
  | d + 1, j, k, hj, hk, life', e, e0 => by
    obtain ⟨k, rfl⟩ : ∃ k', k = k' + 1 := ⟨k - 1, by omega⟩
    have hjl : j < fs.length := by omega
    have r := h.rd hl hc hn hjl
    rw [h.pos j hjl] at r
    have lt : (fs.take j).length = j := by rw [List.length_take]; omega
    rw [fnd_yes r ⟨by rw [lt]; rcases Nat.eq_zero_or_pos j with q | q
                      · exact .inl q
                      · exact .inr (e q).symm, by rw [lt]⟩]
    have e2 : fs.take j ++ [⟨used (fs.take j), (fs[j]).kind, (fs[j]).pay⟩] = fs.take (j + 1) := by
      rw [List.take_succ_eq_append_getElem hjl, ← h.pos j hjl]
    rw [e2]
    exact Laid.fnd_from h hl hc hn hs d (j + 1) k (by omega) (by omega) life (fun _ => rfl) (fun _ => rfl)
/-- What Open finds. -/
theorem Laid.opn {s : St} {first life count : Nat} {fs : List Fa} (h : Laid s.sec first life fs) (hl : life < 18446744073709551616) (hc : used fs ≤ count) (hn : count < 4294967296) (hs : Stop s.sec first count life fs) (he : 0 < fs.length) : opn s first count = ⟨first, count, life, fs, s.lives⟩ := by
  have := len_used fs
  have e := Laid.fnd_from h hl hc (by omega) hs fs.length 0 count (by omega) (by omega) 0 (fun h => by omega) (fun h => by omega)
  unfold Go.Proofs.YtblmfkdcahhhbaaDoor.opn
  rw [List.take_zero] at e
  rw [e]
theorem opn_none {s : St} {first count : Nat} (h : (s.sec first).getD 0 0 ≠ 72) : opn s first count = ⟨first, count, 0, [], s.lives⟩ := by
  unfold opn
  rw [fnd_none (rdB_quiet (by simpa [used] using h))]
theorem Stop.quiet {sec : Nat → List Int} {first count life : Nat} {fs : List Fa} (h : (sec (first + used fs)).getD 0 0 ≠ 72) : Stop sec first count life fs := fun f hf => by rw [rdB_quiet h] at hf; cases hf
theorem Stop.elder {sec : Nat → List Int} {first count life : Nat} {fs : List Fa} (he : 0 < fs.length) (h : (sec (first + used fs)).getD 0 0 = 72 → hLife (sec (first + used fs)) ≠ life) : Stop sec first count life fs := fun f hf c => by
  obtain ⟨g, rfl⟩ := rdB_some hf
  rcases c.1 with q | q
  · omega
  · exact h g.1 q

end Go.Proofs.YtblmfkdcahhhbaaDoor
