/- Plain mathematics of frames: numbers by their lowest bytes, a frame's sectors, what is read of sectors, what an area finds. No program in it. -/
import Derived.Test.YtblmfkdcahhhbaaDoorD1
import Derived.Test.YtblmfkdcahhhbaaDoorCrc
namespace Go.Proofs.YtblmfkdcahhhbaaDoor
open Go.RowKit
set_option linter.unusedVariables false
set_option linter.unusedSimpArgs false

/-- A number's n lowest bytes, the lowest first. -/
def lowB : Nat → Nat → List Int
  | 0, _ => []
  | n + 1, v => ((v % 256 : Nat) : Int) :: lowB n (v / 256)
/-- Back. -/
def upB : List Int → Nat
  | [] => 0
  | c :: r => c.toNat + 256 * upB r
theorem lowB_len : ∀ n v, (lowB n v).length = n
  | 0, _ => rfl
  | n + 1, v => by rw [lowB, List.length_cons, lowB_len n]
theorem lowB_ok : ∀ n v, Bys (lowB n v)
  | 0, _ => Bys.nil
  | n + 1, v => Bys.mk (by omega) (by omega) (lowB_ok n _)
theorem lowB_snoc : ∀ n v, lowB (n + 1) v = lowB n v ++ [((v / 256 ^ n % 256 : Nat) : Int)]
  | 0, v => by simp [lowB]
  | n + 1, v => by
    rw [lowB, lowB_snoc n (v / 256), lowB, List.cons_append]
    rw [Nat.div_div_eq_div_mul, Nat.pow_succ, Nat.mul_comm (256 ^ n) 256]
theorem upB_lt : ∀ l : List Int, Bys l → upB l < 256 ^ l.length
  | [], _ => by simp [upB]
  | c :: r, h => by
    have := upB_lt r h.cons.2
    have := h.cons.1
    rw [upB, List.length_cons, Nat.pow_succ]
    omega
theorem upB_lowB : ∀ n v, v < 256 ^ n → upB (lowB n v) = v
  | 0, v, h => by simp at h; subst h; rfl
  | n + 1, v, h => by
    rw [lowB, upB, upB_lowB n (v / 256) (by rw [Nat.div_lt_iff_lt_mul (by decide)]; rw [Nat.pow_succ] at h; exact h)]
    omega
theorem lowB_upB : ∀ l : List Int, Bys l → lowB l.length (upB l) = l
  | [], _ => rfl
  | c :: r, h => by
    have hc := h.cons.1
    have e := lowB_upB r h.cons.2
    rw [List.length_cons, lowB, upB]
    have e1 : (c.toNat + 256 * upB r) % 256 = c.toNat := by omega
    have e2 : (c.toNat + 256 * upB r) / 256 = upB r := by omega
    rw [e1, e2, e]
    congr 1
    omega
/-- The sum's bytes are the sum. -/
theorem low_eq {l : List Int} {v : Nat} (h : Bys l) (hl : l.length = 4) (hv : v < 4294967296) : lowB 4 v = l ↔ v = upB l := by
  constructor
  · intro e; subst e; rw [upB_lowB 4 v (by exact hv)]
  · intro e
    have := lowB_upB l h
    rw [hl, ← e] at this
    exact this

/-- How many sectors a payload wants. -/
def fsize (n : Nat) : Nat := 1 + (n - 44 + 62) / 63
theorem fsize_pos (n : Nat) : 1 ≤ fsize n := by unfold fsize; omega
theorem fsize_le {n : Nat} (h : n ≤ 1000) : fsize n ≤ 17 := by unfold fsize; omega

/-- n items from the i-th on. -/
def seg (l : List Int) (i n : Nat) : List Int := (l.drop i).take n
theorem seg_len {l : List Int} {i n : Nat} (h : i + n ≤ l.length) : (seg l i n).length = n := by unfold seg; simp; omega
theorem seg_ok {l : List Int} (h : Bys l) (i n : Nat) : Bys (seg l i n) := (h.drop i).take n

def hN (h : List Int) : Nat := upB (seg h 14 2)
def hLife (h : List Int) : Nat := upB (seg h 2 8)
def hNum (h : List Int) : Nat := upB (seg h 10 4)
def hSum (h : List Int) : Nat := upB (seg h 16 4)
/-- A frame as it is read. -/
structure Fr where
  kind : Int
  life : Nat
  num : Nat
  pay : List Int
/-- What the sectors carry, one behind the other. -/
def cat (sec : Nat → List Int) (i : Nat) : Nat → List Int
  | 0 => (sec i).drop 20
  | k + 1 => cat sec i k ++ (sec (i + (k + 1))).drop 1
def ok67 (sec : Nat → List Int) (i : Nat) : Nat → Bool
  | 0 => true
  | k + 1 => ok67 sec i k && ((sec (i + (k + 1))).getD 0 0 == 67)
def payB (sec : Nat → List Int) (i : Nat) : List Int := (cat sec i (fsize (hN (sec i)) - 1)).take (hN (sec i))
/-- Does a frame stand at a sector, so many sectors left? -/
def stands (sec : Nat → List Int) (i room : Nat) : Prop :=
  (sec i).getD 0 0 = 72 ∧ hN (sec i) ≤ 1000 ∧ fsize (hN (sec i)) ≤ room ∧ ok67 sec i (fsize (hN (sec i)) - 1) = true ∧ sum ((sec i).take 16 ++ payB sec i) = hSum (sec i)
noncomputable def rdB (sec : Nat → List Int) (i room : Nat) : Option Fr :=
  haveI := Classical.propDecidable (stands sec i room)
  if stands sec i room then some ⟨(sec i).getD 1 0, hLife (sec i), hNum (sec i), payB sec i⟩ else none

theorem cat_len {sec : Nat → List Int} (h : ∀ j, (sec j).length = 64) (i : Nat) : ∀ k, (cat sec i k).length = 44 + 63 * k
  | 0 => by simp [cat, h]
  | k + 1 => by rw [cat, List.length_append, cat_len h i k, List.length_drop, h]; omega
theorem cat_ok {sec : Nat → List Int} (h : ∀ j, Bys (sec j)) (i : Nat) : ∀ k, Bys (cat sec i k)
  | 0 => (h i).drop 20
  | k + 1 => (cat_ok h i k).app ((h _).drop 1)
theorem fsize_holds {n : Nat} : n ≤ 44 + 63 * (fsize n - 1) := by unfold fsize; omega
theorem payB_len {sec : Nat → List Int} (h : ∀ j, (sec j).length = 64) (i : Nat) : (payB sec i).length = hN (sec i) := by
  unfold payB
  rw [List.length_take, cat_len h]
  have := @fsize_holds (hN (sec i))
  omega
theorem payB_ok {sec : Nat → List Int} (h : ∀ j, Bys (sec j)) (i : Nat) : Bys (payB sec i) := (cat_ok h i _).take _

theorem rdB_some {sec : Nat → List Int} {i room : Nat} {f : Fr} (h : rdB sec i room = some f) : stands sec i room ∧ f = ⟨(sec i).getD 1 0, hLife (sec i), hNum (sec i), payB sec i⟩ := by
  unfold rdB at h
  split at h
  · rename_i g; exact ⟨g, by simpa using h.symm⟩
  · simp at h

/-- Sectors that agree give one frame. -/
theorem cat_congr {sec sec' : Nat → List Int} {i : Nat} : ∀ k, (∀ j, j ≤ k → sec' (i + j) = sec (i + j)) → cat sec' i k = cat sec i k
  | 0, h => by rw [cat, cat]; have := h 0 (by omega); rw [Nat.add_zero] at this; rw [this]
  | k + 1, h => by rw [cat, cat, cat_congr k (fun j hj => h j (by omega)), h (k + 1) (by omega)]
theorem ok67_congr {sec sec' : Nat → List Int} {i : Nat} : ∀ k, (∀ j, j ≤ k → sec' (i + j) = sec (i + j)) → ok67 sec' i k = ok67 sec i k
  | 0, h => rfl
  | k + 1, h => by rw [ok67, ok67, ok67_congr k (fun j hj => h j (by omega)), h (k + 1) (by omega)]
theorem rdB_congr {sec sec' : Nat → List Int} {i room n : Nat} {f : Fr} (h : rdB sec i room = some f) (hn : fsize f.pay.length ≤ n) (hl : ∀ j, (sec j).length = 64) (hs : ∀ j, j < n → sec' (i + j) = sec (i + j)) : rdB sec' i room = some f := by
  obtain ⟨g, rfl⟩ := rdB_some h
  have hp := fsize_pos (hN (sec i))
  rw [payB_len hl] at hn
  have e0 : sec' i = sec i := by have := hs 0 (by omega); rw [Nat.add_zero] at this; exact this
  have e1 := cat_congr (sec := sec) (sec' := sec') (i := i) (fsize (hN (sec i)) - 1) (fun j hj => hs j (by omega))
  have e2 := ok67_congr (sec := sec) (sec' := sec') (i := i) (fsize (hN (sec i)) - 1) (fun j hj => hs j (by omega))
  have e3 : payB sec' i = payB sec i := by unfold payB; rw [e0, e1]
  unfold rdB
  rw [e3, e0, if_pos]
  unfold stands
  rw [e3, e0, e2]
  exact g

/-- A frame's head, up to its sum. -/
def hd16 (kind : Int) (life num len : Nat) : List Int := 72 :: kind :: (lowB 8 life ++ (lowB 4 num ++ lowB 2 len))
def hd20 (kind : Int) (life num : Nat) (b : List Int) : List Int := hd16 kind life num b.length ++ lowB 4 (sum (hd16 kind life num b.length ++ b))
/-- A frame's sectors. -/
def fsec (kind : Int) (life num : Nat) (b : List Int) : Nat → List Int
  | 0 => hd20 kind life num b ++ b.take 44
  | k + 1 => 67 :: (b.drop (44 + 63 * k)).take 63
theorem hd16_len (kind : Int) (life num len : Nat) : (hd16 kind life num len).length = 16 := by simp [hd16, lowB_len]
theorem hd20_len (kind : Int) (life num : Nat) (b : List Int) : (hd20 kind life num b).length = 20 := by simp [hd20, hd16_len, lowB_len]
theorem hd16_ok {kind : Int} (life num len : Nat) (h : 0 ≤ kind ∧ kind < 256) : Bys (hd16 kind life num len) :=
  Bys.mk (by decide) (by decide) (Bys.mk h.1 h.2 ((lowB_ok 8 _).app ((lowB_ok 4 _).app (lowB_ok 2 _))))
theorem hd20_ok {kind : Int} (life num : Nat) (b : List Int) (h : 0 ≤ kind ∧ kind < 256) : Bys (hd20 kind life num b) := (hd16_ok _ _ _ h).app (lowB_ok 4 _)
theorem fsec_len (kind : Int) (life num : Nat) (b : List Int) : ∀ k, (fsec kind life num b k).length ≤ 64
  | 0 => by rw [fsec, List.length_append, hd20_len, List.length_take]; omega
  | k + 1 => by rw [fsec, List.length_cons, List.length_take]; omega
theorem fsec_ok {kind : Int} (life num : Nat) {b : List Int} (h : 0 ≤ kind ∧ kind < 256) (hb : Bys b) : ∀ k, Bys (fsec kind life num b k)
  | 0 => (hd20_ok _ _ _ h).app (hb.take _)
  | k + 1 => Bys.mk (by decide) (by decide) ((hb.drop _).take _)

/-- A frame that an area has. -/
structure Fa where
  pos : Nat
  kind : Int
  pay : List Int
structure Ar where
  first : Nat
  count : Nat
  life : Nat
  fs : List Fa
  lives : Nat
def used : List Fa → Nat
  | [] => 0
  | f :: r => fsize f.pay.length + used r
theorem used_snoc (f : Fa) : ∀ l, used (l ++ [f]) = used l + fsize f.pay.length
  | [] => by simp [used]
  | g :: r => by rw [List.cons_append, used, used_snoc f r, used]; omega
theorem len_used : ∀ l : List Fa, l.length ≤ used l
  | [] => Nat.le_refl _
  | f :: r => by have := len_used r; have := fsize_pos f.pay.length; rw [List.length_cons, used]; omega
/-- The frames, one behind the other. -/
noncomputable def fnd (sec : Nat → List Int) (first count : Nat) : Nat → Nat → List Fa → Nat × List Fa
  | 0, life, fs => (life, fs)
  | k + 1, life, fs =>
    match rdB sec (first + used fs) (count - used fs) with
    | none => (life, fs)
    | some f => if (fs.length = 0 ∨ f.life = life) ∧ f.num = fs.length then fnd sec first count k f.life (fs ++ [⟨used fs, f.kind, f.pay⟩]) else (life, fs)
theorem fnd_none {sec : Nat → List Int} {first count : Nat} {fs : List Fa} {life : Nat} (h : rdB sec (first + used fs) (count - used fs) = none) : ∀ k, fnd sec first count k life fs = (life, fs)
  | 0 => rfl
  | k + 1 => by rw [fnd, h]
theorem fnd_no {sec : Nat → List Int} {first count : Nat} {fs : List Fa} {life : Nat} {f : Fr} (h : rdB sec (first + used fs) (count - used fs) = some f) (c : ¬ ((fs.length = 0 ∨ f.life = life) ∧ f.num = fs.length)) : ∀ k, fnd sec first count k life fs = (life, fs)
  | 0 => rfl
  | k + 1 => by rw [fnd, h]; exact if_neg c
theorem fnd_yes {sec : Nat → List Int} {first count : Nat} {fs : List Fa} {life : Nat} {f : Fr} (h : rdB sec (first + used fs) (count - used fs) = some f) (c : (fs.length = 0 ∨ f.life = life) ∧ f.num = fs.length) (k : Nat) : fnd sec first count (k + 1) life fs = fnd sec first count k f.life (fs ++ [⟨used fs, f.kind, f.pay⟩]) := by
  rw [fnd, h]; exact if_pos c
noncomputable def opn (s : St) (first count : Nat) : Ar := ⟨first, count, (fnd s.sec first count count 0 []).1, (fnd s.sec first count count 0 []).2, s.lives⟩
/-- What Open answers. -/
def oE (n : Nat) (s : St) (first count : Int) : Int := if first < 0 ∨ count < 1 ∨ (n : Int) < first + count then 1 else if s.on = true then 0 else 4

/-- Sectors are written, the last one first. -/
def wrs (N i : Nat) (f : Nat → List Int) : Nat → St → Int × St
  | 0, s => (0, s)
  | k + 1, s => if wE N s ((i + k : Nat) : Int) (f k) = 0 then wrs N i f k (wS N s ((i + k : Nat) : Int) (f k)) else (wE N s ((i + k : Nat) : Int) (f k), wS N s ((i + k : Nat) : Int) (f k))
theorem wrs_go {N i : Nat} {f : Nat → List Int} {k : Nat} {s : St} (h : wE N s ((i + k : Nat) : Int) (f k) = 0) : wrs N i f (k + 1) s = wrs N i f k (wS N s ((i + k : Nat) : Int) (f k)) := if_pos h
theorem wrs_end {N i : Nat} {f : Nat → List Int} {k : Nat} {s : St} (h : wE N s ((i + k : Nat) : Int) (f k) ≠ 0) : wrs N i f (k + 1) s = (wE N s ((i + k : Nat) : Int) (f k), wS N s ((i + k : Nat) : Int) (f k)) := if_neg h
/-- What Add answers, what becomes of the disk, of the area. -/
structure Ans where
  pos : Int
  err : Int
  s : St
  a : Ar
def addW (N : Nat) (s : St) (a : Ar) (kind : Int) (b : List Int) : Int × St := wrs N (a.first + used a.fs) (fsec kind a.life a.fs.length b) (fsize b.length) s
def addG (N : Nat) (s : St) (a : Ar) (kind : Int) (b : List Int) : Ans :=
  if 1000 < b.length then ⟨0, 2, s, a⟩ else if s.lives ≠ a.lives then ⟨0, 4, s, a⟩ else if a.count - used a.fs < fsize b.length then ⟨0, 6, s, a⟩ else
  if (addW N s a kind b).1 = 0 then ⟨(used a.fs : Nat), 0, (addW N s a kind b).2, { a with fs := a.fs ++ [⟨used a.fs, kind, b⟩] }⟩ else ⟨0, (addW N s a kind b).1, (addW N s a kind b).2, a⟩

end Go.Proofs.YtblmfkdcahhhbaaDoor
