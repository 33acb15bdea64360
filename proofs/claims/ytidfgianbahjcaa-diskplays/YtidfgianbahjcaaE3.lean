/- The law's 'acts': calls are done, one behind the other. -/
import Derived.Test.YtidfgianbahjcaaE2
import Derived.Deep.LoopGhost
namespace Go.Proofs.Ytidfgianbahjcaa
open Go.RowKit
set_option linter.unusedVariables false

def act (n : Nat) (s : St) (x : Ac) : St :=
  if x.op = 0 then wS n s x.sec x.b else if x.op = 2 then s.cutTo x.n (odd x.how) else if x.op = 3 then s.onAgain else s
def run (n : Nat) (s : St) (f : Nat → Ac) : Nat → St
  | 0 => s
  | k + 1 => act n (run n s f k) (f k)
theorem wS_bd (n : Nat) (s : St) (i : Int) (b : List Int) : (wS n s i b).writes ≤ s.writes + 1 ∧ (wS n s i b).lives = s.lives := by
  unfold wS
  split
  · split
    · split
      · split
        · exact ⟨Nat.le_succ _, rfl⟩
        · exact ⟨Nat.le_succ _, rfl⟩
      · exact ⟨Nat.le_refl _, rfl⟩
    · exact ⟨Nat.le_succ _, rfl⟩
  · exact ⟨Nat.le_succ _, rfl⟩
theorem act_bd (n : Nat) (s : St) (x : Ac) : (act n s x).writes ≤ s.writes + 1 ∧ (act n s x).lives ≤ s.lives + 1 := by
  unfold act
  have := wS_bd n s x.sec x.b
  split
  · exact ⟨this.1, by omega⟩
  · split
    · exact ⟨Nat.le_succ _, Nat.le_succ _⟩
    · split
      · exact ⟨Nat.le_succ _, Nat.le_refl _⟩
      · exact ⟨Nat.le_succ _, Nat.le_succ _⟩
theorem run_bd (n : Nat) (s : St) (f : Nat → Ac) : ∀ k, (run n s f k).writes ≤ s.writes + k ∧ (run n s f k).lives ≤ s.lives + k
  | 0 => ⟨Nat.le_refl _, Nat.le_refl _⟩
  | k + 1 => by
    have h1 := run_bd n s f k
    have h2 := act_bd n (run n s f k) (f k)
    show (act n (run n s f k) (f k)).writes ≤ _ ∧ (act n (run n s f k) (f k)).lives ≤ _
    omega

set_option maxRecDepth 100000 in
set_option maxHeartbeats 4000000 in
theorem acts_any (w0 w : World) (p q n : Nat) (s : St) (a : Option Addr) (len cap : Nat) (f : Nat → Ac) (hA : Acts w0 a len cap f) (hI : InvD w0 p q n s w) (hl : len ≤ 40) (hw : s.writes ≤ 1000) (hv : s.lives ≤ 1000) :
    Calls Try.prog 21 #[.pointer (some ⟨p, 0, none⟩), .slice a len cap] w fun e w' => e = .returned (.tuple #[]) ∧ Dk w' p q n (run n s f len) ∧ Gr p q w w' := by
  obtain ⟨g, o, h1, h2⟩ := hA.at_
  have H2 : Hid _ := h2
  have I0 : Hid _ := hI
  have hfc := hA.fits
  have hmx := hA.max
  have len' : (len : Int) ≤ 40 := by omega
  have cap' : (cap : Int) ≤ 9223372036854775807 := by unfold maxLen at hmx; omega
  clear hA hI h2 hmx
  go_enter Try.func21, Try.ntmps21
  go_wp2_with fail
  go_loopg [4] len (fun g iv wr => ∃ k : Nat, k ≤ len ∧ g = len - k ∧ iv = .int .i64 k ∧ Hid (InvD w0 p q n (run n s f k) wr ∧ Gr p q w wr))
  case atStart => exact ⟨0, Nat.zero_le _, rfl, rfl, I0.out, Gr.refl _ _ _⟩
  case round =>
    obtain ⟨k, hk, rfl, rfl, T⟩ := hrel
    by_cases qk : k < len
    · have qk' : (k : Int) < (len : Int) := by omega
      obtain rfl := h1 (by omega)
      obtain ⟨a', m, c, X⟩ := H2.out k qk
      have bd := run_bd n s f k
      have X0 : Hid _ := X
      have old : ∀ j v, w0.cell? ⟨g, j, none⟩ = some v → wr.cell? ⟨g, j, none⟩ = some v := fun j v hv => by
        rw [T.out.1.b.cell (p := ⟨g, j, none⟩) (World.block_lt_of_cell? _ _ hv)]; exact hv
      have x0 := old _ _ X.c0
      have x1 := old _ _ X.c1
      have x2 := old _ _ X.c2
      have x3 := old _ _ X.c3
      have x4 := old _ _ X.c4
      have nm := X.nm
      have BD : Hid _ := bd
      have RS : Hid (run n s f (k + 1) = act n (run n s f k) (f k)) := rfl
      generalize hx : f k = x at *
      clear old X bd hx h1
      by_cases o0 : x.op = 0
      · rw [o0] at x0
        go_wp2_with (go_at_call 10; refine Calls.mono (Write_any p q n (run n s f k) x.sec a' m c x.b _ (T.out.1.d.below (allocB wr _)) ((X0.out.by4.below T.out.1.b).below (allocB wr _)) (T.out.1.apart X0.out.by4) (by have := BD.out; omega)) ?_; rintro e w2 ⟨rfl, d2, g2⟩)
        go_roundg (len - (k + 1))
        case measure => omega
        case rel =>
          have e : run n s f (k + 1) = wS n (run n s f k) x.sec x.b := by rw [RS.out]; unfold act; rw [if_pos o0]
          refine ⟨k + 1, by omega, rfl, by go_num, ?_⟩
          show InvD _ _ _ _ (run n s f (k + 1)) _ ∧ _
          rw [e]
          exact ⟨(T.out.1.below (allocB wr _)).gr d2 g2, T.out.2.trans ((Gr.alloc p q wr _).trans g2)⟩
      · have n0 : (x.op == 0) = false := beq_eq_false_iff_ne.2 o0
        by_cases o2 : x.op = 2
        · rw [o2] at x0
          clear n0
          go_wp2_with (go_at_call 13; refine Calls.mono (Cut_any p q n (run n s f k) x.n x.how _ (T.out.1.d.below (allocB wr _)) nm) ?_; rintro e w2 ⟨rfl, d2, g2⟩)
          go_roundg (len - (k + 1))
          case measure => omega
          case rel =>
            have e : run n s f (k + 1) = (run n s f k).cutTo x.n (odd x.how) := by rw [RS.out]; unfold act; rw [if_neg o0, if_pos o2]
            refine ⟨k + 1, by omega, rfl, by go_num, ?_⟩
            show InvD _ _ _ _ (run n s f (k + 1)) _ ∧ _
            rw [e]
            exact ⟨(T.out.1.below (allocB wr _)).gr d2 g2, T.out.2.trans ((Gr.alloc p q wr _).trans g2)⟩
        · have n2 : (x.op == 2) = false := beq_eq_false_iff_ne.2 o2
          by_cases o3 : x.op = 3
          · rw [o3] at x0
            clear n0 n2
            go_wp2_with (go_at_call 15; refine Calls.mono (On_any p q n (run n s f k) _ (T.out.1.d.below (allocB wr _)) (by have := BD.out; omega)) ?_; rintro e w2 ⟨rfl, d2, g2⟩)
            go_roundg (len - (k + 1))
            case measure => omega
            case rel =>
              have e : run n s f (k + 1) = (run n s f k).onAgain := by rw [RS.out]; unfold act; rw [if_neg o0, if_neg o2, if_pos o3]
              refine ⟨k + 1, by omega, rfl, by go_num, ?_⟩
              show InvD _ _ _ _ (run n s f (k + 1)) _ ∧ _
              rw [e]
              exact ⟨(T.out.1.below (allocB wr _)).gr d2 g2, T.out.2.trans ((Gr.alloc p q wr _).trans g2)⟩
          · have n3 : (x.op == 3) = false := beq_eq_false_iff_ne.2 o3
            go_wp2
            go_roundg (len - (k + 1))
            case measure => omega
            case rel =>
              have e : run n s f (k + 1) = run n s f k := by rw [RS.out]; unfold act; rw [if_neg o0, if_neg o2, if_neg o3]
              refine ⟨k + 1, by omega, rfl, by go_num, ?_⟩
              show InvD _ _ _ _ (run n s f (k + 1)) _ ∧ _
              rw [e]
              exact ⟨T.out.1.below (allocB wr _), T.out.2.trans (Gr.alloc p q wr _)⟩
    · obtain rfl : len = k := by omega
      go_wp2
      go_returns
      exact ⟨rfl, T.out.1.d, T.out.2⟩

end Go.Proofs.Ytidfgianbahjcaa
