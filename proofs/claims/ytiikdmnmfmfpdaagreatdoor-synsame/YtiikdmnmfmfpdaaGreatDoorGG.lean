/- All of the reference's expressions. All of the reference's declarations. What serves the walk over the reference's Parse. The walk over the reference's Parse. The reference's Parse, of any text. The walk over Back. Trees of texts have few kids a node; the walk over Read. The walk over the reference's Same. The program's Same, where the first tree stands anywhere. The walk over SynSame. What the rows give the walks: the tables in their places. -/
import Derived.Test.YtiikdmnmfmfpdaaGreatDoorGE
import Derived.Test.YtiikdmnmfmfpdaaGreatDoorXo
import Derived.BigQuiet
import Derived.Deep.RegionHeld3
import Derived.Test.YtiikdmnmfmfpdaaGreatDoorGF
import Derived.Deep.CutBlock
import Derived.Test.YtiikdmnmfmfpdaaGreatDoorY7
import Derived.Test.YtiikdmnmfmfpdaaGreatDoorGA
import Derived.ProofKit
import Derived.OpenShut
import Derived.ShutString
import Derived.ChangeOld
import Derived.Below
import Derived.ChangeMaps5
import Derived.Deep.DeepHandedRow
import Derived.Lib.LaidTab
namespace Go.Proofs.YtiikdmnmfmfpdaaGreatDoor
open Go.RowKit
set_option linter.unusedVariables false
set_option linter.unusedSimpArgs false

set_option maxRecDepth 100000 in
set_option maxHeartbeats 4000000 in
theorem rrow_5 {w : World} {p b c : Nat} {ws : List Wo} {d : Nat} {s : Sp} (h : Sw w p b c ws d s) (r : Tr × Sp) (hU : ∀ w, Sw w p b c ws d s → Calls Tryz.prog 109 #[.pointer (some ⟨p, 0, none⟩)] w fun e w' => Rn w w' p b c ws d e r) :
    Calls Tryz.prog 94 #[.pointer (some ⟨p, 0, none⟩), .int .i64 5] w fun e w' => Rn w w' p b c ws d e r := by
  have pl0 := h.pl
  have bl0 := h.bl
  have HB := hid (B6.new w 32 (.string ⟨#[]⟩) (.string ⟨#[]⟩) (.int .i64 0) (.int .i64 0) (.int .i64 0) (.slice none 0 0))
  have HS0 : Hid (Below w.heap.size w (w.alloc (.cells #[.string ⟨#[]⟩, .string ⟨#[]⟩, .int .i64 0, .int .i64 0, .int .i64 0, .slice none 0 0] 32))) := (Below.refl _ _).alloc (Nat.le_refl _) _
  have HS := hid (h.next HS0.out)
  have HG := hid ((Gr.refl w p).below HS0.out)
  have WS := hid (show w.heap.size < (w.alloc (.cells #[.string ⟨#[]⟩, .string ⟨#[]⟩, .int .i64 0, .int .i64 0, .int .i64 0, .slice none 0 0] 32)).heap.size from by simp)
  have f0 := fd0
  have f1 := fd1
  have f3 := fd3
  have UH := hid hU
  clear h hU
  go_enter Tryz.func94, Tryz.ntmps94
  go_upto_region 1 with fail
  generalize World.alloc w _ = w1 at *
  obtain ⟨n0, hn0⟩ : ∃ n, n = w1.heap.size := ⟨_, rfl⟩
  have wn : w.heap.size < n0 := by rw [hn0]; exact WS.out
  have pn : p < n0 := by omega
  have bn : b < n0 := by omega
  replace WS := hid (Nat.le_of_eq hn0)
  clear hn0 HS0
  go_upto_region 2 with fail
  have PC := hid (UH.out _ HS.out)
  go_wp2_with (go_at_call 109; with_reducible refine Calls.mono PC.out ?_; rintro e w9 h9; obtain ⟨g9, s9, sa9, sm9, sc9, rfl, nv9⟩ := h9.parts; have NV9 := hid nv9; replace HG := hid (HG.out.trans g9); replace HB := hid (HB.out.gr g9 (by omega)); have WO9 := WS; replace WS := hid (Nat.le_trans WS.out g9.size); replace HS := hid s9; obtain ⟨u0, u1, u2, u3, u4, u5, uz⟩ := HB.out; have BF := hid (HB.out.sets (.string r.1.op) (.string r.1.name) (.int .i64 (r.1.kind : Nat)) (.int .i64 r.1.n) (.int .i64 (r.1.pl : Nat)) (.slice sa9 sm9 sc9)); have SF := hid (HS.out.put6 (q := w.heap.size) (by omega) (by omega) (.string r.1.op) (.string r.1.name) (.int .i64 (r.1.kind : Nat)) (.int .i64 r.1.n) (.int .i64 (r.1.pl : Nat)) (.slice sa9 sm9 sc9)); have GF := hid (HG.out.put6 (q := w.heap.size) (by omega) (.string r.1.op) (.string r.1.name) (.int .i64 (r.1.kind : Nat)) (.int .i64 r.1.n) (.int .i64 (r.1.pl : Nat)) (.slice sa9 sm9 sc9)); have NF := hid (Nd.put6x (q := w.heap.size) (m := w.heap.size) NV9.out (Nat.lt_of_lt_of_le wn WO9.out) (Nat.le_of_lt (Nat.lt_of_lt_of_le wn WO9.out)) (.string r.1.op) (.string r.1.name) (.int .i64 (r.1.kind : Nat)) (.int .i64 r.1.n) (.int .i64 (r.1.pl : Nat)) (.slice sa9 sm9 sc9)); clear h9 g9 s9 nv9 PC)
  generalize World.setCell _ ⟨w.heap.size, 5, none⟩ _ = wf at *
  obtain ⟨q0, q1, q2, q3, q4, q5, _⟩ := BF.out
  exact bodyPost_ret (v := .agg #[.string r.1.op, .string r.1.name, .int .i64 (r.1.kind : Nat), .int .i64 r.1.n, .int .i64 (r.1.pl : Nat), .slice sa9 sm9 sc9]) (by simp [results, Tryz.results94, go_sem, q0, q1, q2, q3, q4, q5]) rfl ⟨GF.out, SF.out, _, rfl, _, rfl, NF.out⟩
/-- No part gives words back. -/
def Mo (A : Ax) : Prop := ∀ s, (A s).2.l.length ≤ s.l.length
theorem len_nx (s : Sp) : s.nx.l.length ≤ s.l.length := by show s.l.tail.length ≤ _; rw [List.length_tail]; omega
theorem len_want (s : Sp) (t : ByteArray) : (s.want t).l.length ≤ s.l.length := by
  unfold Sp.want
  split
  · exact len_nx s
  · exact Nat.le_refl _
theorem len_nm (s : Sp) : s.nm.2.l.length ≤ s.l.length := by
  unfold Sp.nm
  split
  · exact len_nx s
  · exact Nat.le_refl _
theorem len_kd (s : Sp) : s.kd.2.l.length ≤ s.l.length := by
  unfold Sp.kd
  split
  · exact len_nx s
  · exact Nat.le_refl _
theorem len_lit (s : Sp) : s.lit.2.l.length ≤ s.l.length := by
  unfold Sp.lit
  split
  · exact len_nx s
  · exact Nat.le_refl _
theorem mo_loop {B : Ax} (hB : Mo B) (lv : Nat) : ∀ f t s, (loopX B lv f t s).2.l.length ≤ s.l.length
  | 0, t, s => Nat.le_refl _
  | f + 1, t, s => by
    unfold loopX
    have h1 := hB s.nx
    have h2 := len_nx s
    split
    · split
      · show (B s.nx).2.l.length ≤ _; omega
      · exact Nat.le_trans (mo_loop hB lv f _ _) (by omega)
    · exact Nat.le_refl _
theorem mo_row {U : Ax} (hU : Mo U) : ∀ m, Mo (rowR U m)
  | 0 => hU
  | m + 1 => fun s => by
    unfold rowR
    exact Nat.le_trans (mo_loop (mo_row hU m) _ _ _ _) (mo_row hU m s)
theorem mo_prim {E : Ax} (hE : Mo E) : Mo (primR E) := fun s => by
  have n0 := len_nx s
  have q1 : ∀ z t, (E (Sp.want z t)).2.l.length ≤ z.l.length := fun z t => Nat.le_trans (hE _) (len_want z t)
  unfold primR
  split
  · exact len_lit s
  split
  · unfold pairR; exact Nat.le_trans (len_want _ _) (Nat.le_trans (q1 _ _) (Nat.le_trans (q1 _ _) n0))
  split
  · unfold pairR; exact Nat.le_trans (len_want _ _) (Nat.le_trans (q1 _ _) (Nat.le_trans (q1 _ _) n0))
  split
  · unfold openR; exact Nat.le_trans (len_want _ _) (Nat.le_trans (hE _) n0)
  split
  · unfold lenR; exact Nat.le_trans (len_want _ _) (Nat.le_trans (q1 _ _) n0)
  split
  · unfold atR; exact Nat.le_trans (len_want _ _) (Nat.le_trans (q1 _ _) (Nat.le_trans (len_nm _) (Nat.le_trans (len_want _ _) n0)))
  split
  · unfold sumR; exact Nat.le_trans (len_want _ _) (Nat.le_trans (q1 _ _) (Nat.le_trans (q1 _ _) (Nat.le_trans (len_nm _) (Nat.le_trans (len_want _ _) n0))))
  · exact len_nm s
theorem mo_un {U : Option Ax} {E : Ax} (hU : ∀ V, U = some V → Mo V) (hE : Mo E) : Mo (unR U E) := fun s => by
  have t1 : ∀ op, (trnR U op s).2.l.length ≤ s.l.length := fun op => by
    unfold trnR
    cases U with
    | none => exact len_nx s
    | some V => exact Nat.le_trans (hU V rfl _) (len_nx s)
  unfold unR
  split
  · exact t1 _
  split
  · exact t1 _
  · exact mo_prim hE s
theorem mo_ins {U E : Ax} (hU : Mo U) (hE : Mo E) : Mo (insR U E) := fun s => by
  have q1 : ∀ z t, (E (Sp.want z t)).2.l.length ≤ z.l.length := fun z t => Nat.le_trans (hE _) (len_want z t)
  unfold insR
  split
  · unfold ifR; exact Nat.le_trans (q1 _ _) (Nat.le_trans (q1 _ _) (Nat.le_trans (hE _) (len_nx s)))
  · exact mo_row hU 5 s
theorem mo_ex {R : Option (Ax × Ax)} (h : ∀ V, R = some V → Mo V.1 ∧ Mo V.2) : Mo (exR R) := fun s => by
  unfold exR
  split
  · cases R with
    | none => exact Nat.le_refl _
    | some V => exact mo_ins (h V rfl).1 (h V rfl).2 s
  · exact Nat.le_refl _
theorem mo_rec : ∀ n, Mo (recR n).1 ∧ Mo (recR n).2
  | 0 => by
    have e : Mo (exR none) := mo_ex (fun V h => by cases h)
    exact ⟨mo_un (fun V h => by cases h) e, e⟩
  | n + 1 => by
    obtain ⟨h1, h2⟩ := mo_rec n
    have e : Mo (exR (some (recR n))) := mo_ex (fun V h => by injection h with h; subst h; exact ⟨h1, h2⟩)
    exact ⟨mo_un (fun V h => by injection h with h; subst h; exact h1) e, e⟩
theorem rrows {p b c : Nat} {ws : List Wo} {d : Nat} (U : Ax) (hM : Mo U) (hU : ∀ w s, Sw w p b c ws d s → Calls Tryz.prog 109 #[.pointer (some ⟨p, 0, none⟩)] w fun e w' => Rn w w' p b c ws d e (U s)) (w : World) (s : Sp) (h : Sw w p b c ws d s) :
    Calls Tryz.prog 94 #[.pointer (some ⟨p, 0, none⟩), .int .i64 0] w fun e w' => Rn w w' p b c ws d e (rowR U 5 s) := by
  have r5 : ∀ w s, Sw w p b c ws d s → Calls Tryz.prog 94 #[.pointer (some ⟨p, 0, none⟩), .int .i64 5] w fun e w' => Rn w w' p b c ws d e (rowR U 0 s) := fun w s h => rrow_5 h _ (fun w h => hU w s h)
  have r4 : ∀ w s, Sw w p b c ws d s → Calls Tryz.prog 94 #[.pointer (some ⟨p, 0, none⟩), .int .i64 4] w fun e w' => Rn w w' p b c ws d e (rowR U 1 s) := fun w s h => rrow_4 h _ r5 (mo_row hM 0) _ rfl
  have r3 : ∀ w s, Sw w p b c ws d s → Calls Tryz.prog 94 #[.pointer (some ⟨p, 0, none⟩), .int .i64 3] w fun e w' => Rn w w' p b c ws d e (rowR U 2 s) := fun w s h => rrow_3 h _ r4 (mo_row hM 1) _ rfl
  have r2 : ∀ w s, Sw w p b c ws d s → Calls Tryz.prog 94 #[.pointer (some ⟨p, 0, none⟩), .int .i64 2] w fun e w' => Rn w w' p b c ws d e (rowR U 3 s) := fun w s h => rrow_2 h _ r3 (mo_row hM 2) _ rfl
  have r1 : ∀ w s, Sw w p b c ws d s → Calls Tryz.prog 94 #[.pointer (some ⟨p, 0, none⟩), .int .i64 1] w fun e w' => Rn w w' p b c ws d e (rowR U 4 s) := fun w s h => rrow_1 h _ r2 (mo_row hM 3) _ rfl
  exact rrow_0 h _ r1 (mo_row hM 4) _ rfl
theorem rprim_any {p b c : Nat} {ws : List Wo} {d : Nat} (E : Ax) (hE : ∀ w s, Sw w p b c ws d s → Calls Tryz.prog 43 #[.pointer (some ⟨p, 0, none⟩)] w fun e w' => Rn w w' p b c ws d e (E s)) (w : World) (s : Sp) (h : Sw w p b c ws d s) :
    Calls Tryz.prog 116 #[.pointer (some ⟨p, 0, none⟩)] w fun e w' => Rn w w' p b c ws d e (primR E s) := by
  cases y0 : s.islit with
  | true => rw [show primR E s = s.lit from by unfold primR; rw [if_pos y0]]; exact rprim_lit h y0 _ rfl
  | false =>
  cases y1 : s.is sMin with
  | true => rw [show primR E s = pairR E sMin s from by unfold primR; rw [y0, y1]; rfl]; exact rprim_min h E hE y0 y1 _ _ rfl rfl
  | false =>
  cases y2 : s.is sMax with
  | true => rw [show primR E s = pairR E sMax s from by unfold primR; rw [y0, y1, y2]; rfl]; exact rprim_max h E hE y0 y1 y2 _ _ rfl rfl
  | false =>
  cases y3 : s.is sOpen with
  | true => rw [show primR E s = openR E s from by unfold primR; rw [y0, y1, y2, y3]; rfl]; exact rprim_open h E hE y0 y1 y2 y3 _ rfl
  | false =>
  cases y4 : s.is sLen with
  | true => rw [show primR E s = lenR E s from by unfold primR; rw [y0, y1, y2, y3, y4]; rfl]; exact rprim_len h E hE y0 y1 y2 y3 y4 _ rfl
  | false =>
  cases y5 : s.is sAt with
  | true => rw [show primR E s = atR E s from by unfold primR; rw [y0, y1, y2, y3, y4, y5]; rfl]; exact rprim_at h E hE y0 y1 y2 y3 y4 y5 _ _ rfl rfl
  | false =>
  cases y6 : s.is sSum with
  | true => rw [show primR E s = sumR E s from by unfold primR; rw [y0, y1, y2, y3, y4, y5, y6]; rfl]; exact rprim_sum h E hE y0 y1 y2 y3 y4 y5 y6 _ _ _ rfl rfl rfl
  | false => rw [show primR E s = (.nd sName s.nm.1 0 0 (aw s.l) [], s.nm.2) from by unfold primR; rw [y0, y1, y2, y3, y4, y5, y6]; rfl]; exact rprim_name h y0 y1 y2 y3 y4 y5 y6 _ rfl
theorem rrec {p b c : Nat} {ws : List Wo} : ∀ n, n ≤ 40 → ∀ d, d + n = 40 → (∀ w s, Sw w p b c ws d s → Calls Tryz.prog 109 #[.pointer (some ⟨p, 0, none⟩)] w fun e w' => Rn w w' p b c ws d e ((recR n).1 s)) ∧ (∀ w s, Sw w p b c ws d s → Calls Tryz.prog 43 #[.pointer (some ⟨p, 0, none⟩)] w fun e w' => Rn w w' p b c ws d e ((recR n).2 s))
  | 0, _, d, hd => by
    have hd : d = 40 := hd
    subst hd
    have ex : ∀ w s, Sw w p b c ws 40 s → Calls Tryz.prog 43 #[.pointer (some ⟨p, 0, none⟩)] w fun e w' => Rn w w' p b c ws 40 e (exR none s) := fun w s h => by
      cases y : s.ok with
      | false => rw [show exR none s = (Tr.zero, s) from by unfold exR; rw [y]; rfl]; exact rexpr_bad h y
      | true => rw [show exR none s = (Tr.zero, s.lim) from by unfold exR; rw [y]; rfl]; exact rexpr_lim h y
    refine ⟨fun w s h => ?_, ex⟩
    show Calls _ _ _ _ fun e w' => Rn w w' p b c ws 40 e (unR none (exR none) s)
    cases y1 : s.is sMinus with
    | true => rw [show unR none (exR none) s = (Tr.zero, s.nx.lim) from by unfold unR; rw [y1]; rfl]; exact run_neg_lim h y1
    | false =>
    cases y2 : s.is sNot with
    | true => rw [show unR none (exR none) s = (Tr.zero, s.nx.lim) from by unfold unR; rw [y1, y2]; rfl]; exact run_not_lim h y1 y2
    | false => rw [show unR none (exR none) s = primR (exR none) s from by unfold unR; rw [y1, y2]; rfl]; exact run_prim h y1 y2 _ (fun w h => rprim_any _ ex w s h)
  | n + 1, hn, d, hd => by
    obtain ⟨iu, ie⟩ := rrec n (by omega) (d + 1) (by omega)
    have ins : ∀ w s, Sw w p b c ws (d + 1) s → Calls Tryz.prog 70 #[.pointer (some ⟨p, 0, none⟩)] w fun e w' => Rn w w' p b c ws (d + 1) e (insR (recR n).1 (recR n).2 s) := fun w s h => by
      cases y : s.is sIf with
      | true => rw [show insR (recR n).1 (recR n).2 s = ifR (recR n).2 s from by unfold insR; rw [y]; rfl]; exact rins_if h _ ie y _ _ _ rfl rfl rfl
      | false => rw [show insR (recR n).1 (recR n).2 s = rowR (recR n).1 5 s from by unfold insR; rw [y]; rfl]; exact rins_row h y _ (fun w h => rrows _ (mo_rec n).1 iu w s h)
    have ex : ∀ w s, Sw w p b c ws d s → Calls Tryz.prog 43 #[.pointer (some ⟨p, 0, none⟩)] w fun e w' => Rn w w' p b c ws d e (exR (some (recR n)) s) := fun w s h => by
      cases y : s.ok with
      | false => rw [show exR (some (recR n)) s = (Tr.zero, s) from by unfold exR; rw [y]; rfl]; exact rexpr_bad h y
      | true => rw [show exR (some (recR n)) s = insR (recR n).1 (recR n).2 s from by unfold exR; rw [y]; rfl]; exact rexpr_ok h y (by omega) _ (fun w h => ins w s h)
    refine ⟨fun w s h => ?_, ex⟩
    show Calls _ _ _ _ fun e w' => Rn w w' p b c ws d e (unR (some (recR n).1) (exR (some (recR n))) s)
    cases y1 : s.is sMinus with
    | true => rw [show unR (some (recR n).1) (exR (some (recR n))) s = (one sNeg ⟨#[]⟩ (aw s.l) ((recR n).1 s.nx).1, ((recR n).1 s.nx).2) from by unfold unR; rw [y1]; rfl]; exact run_neg_ok h y1 (by omega) _ (fun w h => iu w _ h)
    | false =>
    cases y2 : s.is sNot with
    | true => rw [show unR (some (recR n).1) (exR (some (recR n))) s = (one sNot ⟨#[]⟩ (aw s.l) ((recR n).1 s.nx).1, ((recR n).1 s.nx).2) from by unfold unR; rw [y1, y2]; rfl]; exact run_not_ok h y1 y2 (by omega) _ (fun w h => iu w _ h)
    | false => rw [show unR (some (recR n).1) (exR (some (recR n))) s = primR (exR (some (recR n))) s from by unfold unR; rw [y1, y2]; rfl]; exact run_prim h y1 y2 _ (fun w h => rprim_any _ ex w s h)
end Go.Proofs.YtiikdmnmfmfpdaaGreatDoor

namespace Go.Proofs.YtiikdmnmfmfpdaaGreatDoor
open Go.RowKit
set_option linter.unusedVariables false
set_option linter.unusedSimpArgs false

theorem mo_rows : ∀ f ks s, (rowsX f ks s).2.l.length ≤ s.l.length
  | 0, ks, s => Nat.le_refl _
  | f + 1, ks, s => by
    unfold rowsX
    split
    · split
      · exact Nat.le_refl _
      · exact Nat.le_trans (mo_rows f _ _) (Nat.le_trans (len_want _ _) (Nat.le_trans (len_lit _) (Nat.le_trans (len_want _ _) (len_lit s))))
    · exact Nat.le_refl _
theorem len_fail (s : Sp) : s.fail.l.length ≤ s.l.length := Nat.le_refl _
theorem len_tabE (r : List Tr × Sp) : (tabE r).2.l.length ≤ r.2.l.length := by
  unfold tabE
  refine Nat.le_trans (len_want _ _) (Nat.le_trans (len_lit _) (Nat.le_trans (len_want _ _) ?_))
  show (if r.2.ok && r.1.length == 32 then r.2.lim else r.2).l.length ≤ _
  split
  · exact Nat.le_refl _
  · exact Nat.le_refl _
theorem tabR_is (s : Sp) : tabR s = tabE (rowsX 33 [] s) := rfl
theorem rdecl_any {p b c : Nat} {ws : List Wo} (w : World) (s : Sp) (h : Sw w p b c ws 0 s) :
    Calls Tryz.prog 19 #[.pointer (some ⟨p, 0, none⟩)] w fun e w' => Rn w w' p b c ws 0 e (declX (recR 40).2 s) := by
  have hE := (rrec (p := p) (b := b) (c := c) (ws := ws) 40 (Nat.le_refl _) 0 rfl).2
  cases y1 : s.is sInput with
  | true => rw [show declX (recR 40).2 s = (.nd sInput s.nx.nm.1 s.nx.nm.2.kd.1 0 (aw s.l) [], s.nx.nm.2.kd.2.want sSemi) from by unfold declX; rw [y1]; rfl]; exact rdecl_input h y1 _ _ rfl rfl
  | false =>
  cases y2 : s.is sRule with
  | true => rw [show declX (recR 40).2 s = (.nd sRule s.nx.nm.1 s.nx.nm.2.kd.1 0 (aw s.l) [((recR 40).2 (s.nx.nm.2.kd.2.want sEq)).1], ((recR 40).2 (s.nx.nm.2.kd.2.want sEq)).2.want sSemi) from by unfold declX; rw [y1, y2]; rfl]; exact rdecl_rule h _ hE y1 y2 _ _ _ rfl rfl rfl
  | false =>
  cases y3 : s.is sTable with
  | true => rw [show declX (recR 40).2 s = (.nd sTable s.nx.nm.1 s.nx.nm.2.kd.2.kd.1 (s.nx.nm.2.kd.1 : Nat) (aw s.l) (tabE (rowsX 33 [] (s.nx.nm.2.kd.2.kd.2.want sBrace))).1, (tabE (rowsX 33 [] (s.nx.nm.2.kd.2.kd.2.want sBrace))).2) from by unfold declX; rw [y1, y2, y3]; rfl]; exact rdecl_table h y1 y2 y3 _ _ _ rfl rfl rfl _ rfl
  | false => rw [show declX (recR 40).2 s = (.nd ⟨#[]⟩ ⟨#[]⟩ 0 0 (aw s.l) [], s.fail) from by unfold declX; rw [y1, y2, y3]; rfl]; exact rdecl_no h y1 y2 y3
/-- A declaration takes a word, or fails. -/
theorem decl_less (E : Ax) (hE : Mo E) (s : Sp) (h0 : 0 < s.l.length) : (declX E s).2.ok = false ∨ (declX E s).2.l.length < s.l.length := by
  have n1 := nx_len h0
  unfold declX
  split
  · right; exact Nat.lt_of_le_of_lt (Nat.le_trans (len_want _ _) (Nat.le_trans (len_kd _) (len_nm _))) n1
  split
  · right; exact Nat.lt_of_le_of_lt (Nat.le_trans (len_want _ _) (Nat.le_trans (hE _) (Nat.le_trans (len_want _ _) (Nat.le_trans (len_kd _) (len_nm _))))) n1
  split
  · right
    refine Nat.lt_of_le_of_lt ?_ n1
    exact Nat.le_trans (len_tabE (rowsX 33 [] (s.nx.nm.2.kd.2.kd.2.want sBrace))) (Nat.le_trans (mo_rows _ _ _) (Nat.le_trans (len_want _ _) (Nat.le_trans (len_kd _) (Nat.le_trans (len_kd _) (len_nm _)))))
  · left; rfl
end Go.Proofs.YtiikdmnmfmfpdaaGreatDoor

namespace Go.Proofs.YtiikdmnmfmfpdaaGreatDoor
open Go.RowKit
set_option linter.unusedVariables false
set_option linter.unusedSimpArgs false

theorem cut_finX (s : ByteArray) : ∀ (m a : Nat) (R : List Wd), s.size - a ≤ m → a ≤ s.size → cutF s a = (R, none) → R.length ≤ s.size - a + 1 ∧ ∃ (Q : List Wd) (b : Nat), R = Q ++ [(0, 0, 0, b)] := by
  intro m
  induction m with
  | zero =>
    intro a R hm hle hc
    rw [cutF_end (by omega)] at hc
    injection hc with hc _
    subst hc
    exact ⟨by simp, [], a, rfl⟩
  | succ m ih =>
    intro a R hm hle hc
    rcases Nat.lt_or_ge a s.size with ha | ha
    · rw [cutF_cons ha] at hc
      by_cases b : isBl (bt s a) = true
      · rw [if_pos b] at hc
        obtain ⟨i1, i2⟩ := ih (a + 1) R (by omega) (by omega) hc
        exact ⟨by omega, i2⟩
      · rw [if_neg b] at hc
        by_cases d : (bt s a).toNat = 35
        · rw [if_pos d] at hc
          have c1 : 1 ≤ runC (tl s a) := by rw [tl_cons ha]; unfold runC; rw [if_neg (by omega)]; omega
          have c2 := runC_le (tl s a)
          rw [tl_len] at c2
          obtain ⟨i1, i2⟩ := ih _ R (by omega) (by omega) hc
          exact ⟨by omega, i2⟩
        · rw [if_neg d] at hc
          cases hw : wd (tl s a) with
          | none => rw [hw] at hc; cases hc
          | some y =>
            obtain ⟨k, n, v⟩ := y
            rw [hw] at hc
            dsimp only at hc
            obtain ⟨n1, n2⟩ := wd_len hw
            rw [tl_len] at n2
            cases hr : cutF s (a + n) with
            | mk r e =>
              rw [hr] at hc
              cases e with
              | some b => cases hc
              | none =>
                injection hc with hc _
                subst hc
                obtain ⟨i1, Q, b, i2⟩ := ih _ r (by omega) (by omega) hr
                exact ⟨by simp; omega, (k, n, v, a) :: Q, b, by rw [i2]; rfl⟩
    · rw [cutF_end ha] at hc
      injection hc with hc _
      subst hc
      exact ⟨by simp, [], a, rfl⟩
theorem Below.put6X {a b : World} {q : Nat} {B : Nat} (h : Below B a b) (hq : B ≤ q) (v0 v1 v2 v3 v4 v5 : Value) : Below B a ((((((b.setCell ⟨q, 0, none⟩ v0).setCell ⟨q, 1, none⟩ v1).setCell ⟨q, 2, none⟩ v2).setCell ⟨q, 3, none⟩ v3).setCell ⟨q, 4, none⟩ v4).setCell ⟨q, 5, none⟩ v5) :=
  (((((h.setCell (p := ⟨q, 0, none⟩) hq v0).setCell (p := ⟨q, 1, none⟩) hq v1).setCell (p := ⟨q, 2, none⟩) hq v2).setCell (p := ⟨q, 3, none⟩) hq v3).setCell (p := ⟨q, 4, none⟩) hq v4).setCell (p := ⟨q, 5, none⟩) hq v5
/-- The parser's own block, and what lies in it at first. -/
theorem Pr.new {w : World} {s : ByteArray} {v : Value} {R : List Wd} {a : Option Addr} {c b : Nat} (h : Rd4 w v s R a c b) (hb : b < w.heap.size) (hl : R.length ≤ 9000) (hf : ∃ (Q : List Wd) (x : Nat), R = Q ++ [(0, 0, 0, x)]) (t : TypeId) :
    Pr (w.alloc (.cells #[.slice (some ⟨b, 0, none⟩) (R.map (wo s)).length c, .int .i64 0, .int .i64 (-1), .bool false, .int .i64 0] t)) w.heap.size b c (R.map (wo s)) 0 0 none false := by
  have st : Below w.heap.size w (w.alloc (.cells #[.slice (some ⟨b, 0, none⟩) (R.map (wo s)).length c, .int .i64 0, .int .i64 (-1), .bool false, .int .i64 0] t)) := (Below.refl _ _).alloc (Nat.le_refl _) _
  have at_ : ∀ i x, (R.map (wo s))[i]? = some x → ∃ y, R[i]? = some y ∧ wo s y = x := fun i x e => by
    rw [List.getElem?_map] at e
    exact Option.map_eq_some_iff.1 e
  obtain ⟨Q, z, e⟩ := hf
  refine ⟨by simp, by simp, by simp; rfl, by simp, by simp, fun i => by simp, ?_, ?_, ?_, ?_, by omega, by rw [e]; simp, by simpa using hl, ?_⟩
  · intro i x q; obtain ⟨y, q1, q2⟩ := at_ i x q; rw [st.cell (p := ⟨b, _, none⟩) hb, h.c0 i y q1, ← q2]; rfl
  · intro i x q; obtain ⟨y, q1, q2⟩ := at_ i x q; rw [st.cell (p := ⟨b, _, none⟩) hb, h.c1 i y q1, ← q2]; rfl
  · intro i x q; obtain ⟨y, q1, q2⟩ := at_ i x q; rw [st.cell (p := ⟨b, _, none⟩) hb, h.c2 i y q1, ← q2]; rfl
  · intro i x q; obtain ⟨y, q1, q2⟩ := at_ i x q; rw [st.cell (p := ⟨b, _, none⟩) hb, h.c3 i y q1, ← q2]; rfl
  · intro x q
    obtain ⟨y, q1, q2⟩ := at_ _ x q
    rw [e] at q1
    simp at q1
    subst q1
    rw [← q2]
    refine ⟨rfl, ?_⟩
    exact ext_nil s z

/-- What the reference's Parse finds, round by round. -/
structure Tp (w wr : World) (p b c : Nat) (ws : List Wo) (q at_ : Nat) (sl : Value) (ts : List Tr) (s : Sp) : Prop where
  hs : Sw wr p b c ws 0 s
  bl : Below w.heap.size w wr
  hb : B6 wr w.heap.size (.string ⟨#[]⟩) (.string ⟨#[]⟩) (.int .i64 0) (.int .i64 0) (.int .i64 0) (.slice none 0 0)
  nb : B6 wr q (.string ⟨#[115, 116, 97, 116, 117, 116, 101]⟩) (.string ⟨#[]⟩) (.int .i64 0) (.int .i64 0) (.int .i64 (at_ : Nat)) sl
  ky : Ky wr (q + 1) sl ts
  rb : w.heap.size < b
  bp : b < p
  pq : p < q
theorem Tp.next {w wr w' : World} {p b c : Nat} {ws : List Wo} {q at_ : Nat} {sl : Value} {ts : List Tr} {s : Sp} (h : Tp w wr p b c ws q at_ sl ts s) (k : Below wr.heap.size wr w') : Tp w w' p b c ws q at_ sl ts s :=
  ⟨h.hs.next k, nextB h.bl k, h.hb.next k, h.nb.next k, h.ky.next k, h.rb, h.bp, h.pq⟩
theorem below_gr {w w1 w2 : World} {p : Nat} (h : Below w.heap.size w w1) (k : Gr w1 w2 p) (hp : w.heap.size ≤ p) : Below w.heap.size w w2 :=
  ⟨k.os.trans h.os, k.tape.trans h.tape, k.output.trans h.output, Nat.le_trans h.size k.size, fun i hi => (k.block i (Nat.lt_of_lt_of_le hi h.size) (fun e => by injection e with e; omega)).trans (h.block i hi)⟩
theorem Tp.gr {w wr w' : World} {p b c : Nat} {ws : List Wo} {q at_ : Nat} {sl : Value} {ts : List Tr} {s s' : Sp} (h : Tp w wr p b c ws q at_ sl ts s) (hs : Sw w' p b c ws 0 s') (k : Gr wr w' p) : Tp w w' p b c ws q at_ sl ts s' := by
  have a1 := h.rb
  have a2 := h.bp
  have a3 := h.pq
  exact ⟨hs, below_gr h.bl k (by omega), h.hb.gr k (by omega), h.nb.gr k (by omega), h.ky.gr k (by omega), h.rb, h.bp, h.pq⟩
theorem Tp.off {w wr : World} {p b c : Nat} {ws : List Wo} {q at_ : Nat} {sl : Value} {ts : List Tr} {s : Sp} (h : Tp w wr p b c ws q at_ sl ts s) {x : Nat} (hx : x ≤ q) : some x ≠ sl.ownBlock := fun e => by
  have := (h.ky.lt x e.symm).1
  omega
theorem Tp.kid {w wr w' : World} {p b c : Nat} {ws : List Wo} {q at_ : Nat} {sl v : Value} {ts ts' : List Tr} {s : Sp} (h : Tp w wr p b c ws q at_ sl ts s) (g2 : wr.grownBy w' sl.ownBlock) (o2 : Ky w' (q + 1) v ts') : Tp w (w'.setCell ⟨q, 5, none⟩ v) p b c ws q at_ v ts' s := by
  have a1 := h.rb
  have a2 := h.bp
  have a3 := h.pq
  have hs : Sw w' p b c ws 0 s := h.hs.keep (g2.block p h.hs.pl (h.off (by omega))) (g2.block b h.hs.bl (h.off (by omega)))
  have bl : Below w.heap.size w w' := ⟨g2.os.trans h.bl.os, g2.tape.trans h.bl.tape, g2.output.trans h.bl.output, Nat.le_trans h.bl.size g2.size, fun i hi => (g2.block i (Nat.lt_of_lt_of_le hi h.bl.size) (h.off (by omega))).trans (h.bl.block i hi)⟩
  exact ⟨hs.put (by omega) (by omega) _, bl.setCell (p := ⟨q, 5, none⟩) (by show _ ≤ q; omega) _, (h.hb.grown g2 (h.off (by omega))).put (by omega) _, (h.nb.grown g2 (h.off (by omega))).set5 _, o2.put (by omega) _, h.rb, h.bp, h.pq⟩
theorem wp_addM {w : World} {o : Oper} {a : Act} {K : Act → World → Prop} {Q : Exit → Act → World → Prop} (sl x : Operand)
    (ho : o.op = .call { callee := .builtin .append, args := #[sl, x], argTypes := #[30, 30] }) (base : Nat) (v : Value) (ts : List Tr) (t : Tr) (vk : Value) (hs : a.eval sl = v) (hown : Ky w base v ts)
    (b : Nat) (hx : a.eval x = .slice (some ⟨b, 0, none⟩) 1 1) (hc : NC w b 0 t vk) (hk : Nd w (fun g => base ≤ g ∧ some g ≠ v.ownBlock) vk t.kids) (hl : ts.length ≤ 100000) (hbase : base ≤ w.heap.size)
    (h : ∀ v' w', Ky w' base v' (ts ++ [t]) → w.grownBy w' v.ownBlock → K (a.put o.dst v') w') : o.wp Tryz.prog a w K Q := by
  obtain ⟨i0, hi, hz0, hz1, hz2⟩ := info_parts nodeInfoR
  obtain ⟨R, e, ow, n, z⟩ := hown.ex
  have rl : R.length = ts.length := by rw [← e]; simp
  obtain ⟨v', w', hr, h2, h3, h4⟩ := run_app (P := Tryz.prog) w base 30 o.type 32 i0 _ 6 80 Tryz.underlying30 hi hz0 hz1 hz2 rfl (by decide) v R.length (R.flatMap nC) ow ⟨b, 0, none⟩ 1 (nC (t, vk)) rfl (fun j u hu => by
      have : w.cell? ⟨b, j, none⟩ = some u := by
        match j, hu with
        | 0, hu => simp [nC] at hu; rw [← hu]; exact hc.e0
        | 1, hu => simp [nC] at hu; rw [← hu]; exact hc.e1
        | 2, hu => simp [nC] at hu; rw [← hu]; exact hc.e2
        | 3, hu => simp [nC] at hu; rw [← hu]; exact hc.e3
        | 4, hu => simp [nC] at hu; rw [← hu]; exact hc.e4
        | 5, hu => simp [nC] at hu; rw [← hu]; exact hc.e5
        | j + 6, hu => simp [nC] at hu
      cases j with
      | zero => simpa [Addr.add] using this
      | succ j => simpa [Addr.add] using this) (fun u hu => by
      simp [nC] at hu
      rcases hu with rfl | rfl | rfl | rfl | rfl | rfl <;> first | rfl | exact nd_one hk) (by unfold maxLen; omega) (by omega) hbase
  unfold Oper.wp execOp
  simp only [ho, resolve, invoke, builtin, Sem.run_bind, Sem.run_pure, Result.andThen_ok, List.map_toArray, List.map_cons, List.map_nil, hs, hx, hr]
  exact (h v' w' (Ky.add e n hk h2 h3 h4) h3)
theorem wp_addN {w : World} {o : Oper} {a : Act} {K : Act → World → Prop} {Q : Exit → Act → World → Prop} (sl x : Operand)
    (ho : o.op = .call { callee := .builtin .append, args := #[sl, x], argTypes := #[24, 24] }) (base : Nat) (v : Value) (ts : List Tr) (t : Tr) (vk : Value) (hs : a.eval sl = v) (hown : Kr w base v ts)
    (b : Nat) (hx : a.eval x = .slice (some ⟨b, 0, none⟩) 1 1) (hc : NC w b 0 t vk) (hk : Nd w (fun g => base ≤ g ∧ some g ≠ v.ownBlock) vk t.kids) (hl : ts.length ≤ 100000) (hbase : base ≤ w.heap.size)
    (h : ∀ v' w', Kr w' base v' (ts ++ [t]) → w.grownBy w' v.ownBlock → K (a.put o.dst v') w') : o.wp Tryz.prog a w K Q := by
  obtain ⟨i0, hi, hz0, hz1, hz2⟩ := info_parts nodeInfo
  obtain ⟨R, e, ow, n, z⟩ := hown.ex
  have rl : R.length = ts.length := by rw [← e]; simp
  obtain ⟨v', w', hr, h2, h3, h4⟩ := run_app (P := Tryz.prog) w base 24 o.type 26 i0 _ 6 80 Tryz.underlying24 hi hz0 hz1 hz2 rfl (by decide) v R.length (R.flatMap nC) ow ⟨b, 0, none⟩ 1 (nC (t, vk)) rfl (fun j u hu => by
      have : w.cell? ⟨b, j, none⟩ = some u := by
        match j, hu with
        | 0, hu => simp [nC] at hu; rw [← hu]; exact hc.e0
        | 1, hu => simp [nC] at hu; rw [← hu]; exact hc.e1
        | 2, hu => simp [nC] at hu; rw [← hu]; exact hc.e2
        | 3, hu => simp [nC] at hu; rw [← hu]; exact hc.e3
        | 4, hu => simp [nC] at hu; rw [← hu]; exact hc.e4
        | 5, hu => simp [nC] at hu; rw [← hu]; exact hc.e5
        | j + 6, hu => simp [nC] at hu
      cases j with
      | zero => simpa [Addr.add] using this
      | succ j => simpa [Addr.add] using this) (fun u hu => by
      simp [nC] at hu
      rcases hu with rfl | rfl | rfl | rfl | rfl | rfl <;> first | rfl | exact nd_one hk) (by unfold maxLen; omega) (by omega) hbase
  unfold Oper.wp execOp
  simp only [ho, resolve, invoke, builtin, Sem.run_bind, Sem.run_pure, Result.andThen_ok, List.map_toArray, List.map_cons, List.map_nil, hs, hx, hr]
  exact (h v' w' (Kr.add e n hk h2 h3 h4) h3)
end Go.Proofs.YtiikdmnmfmfpdaaGreatDoor

namespace Go.Proofs.YtiikdmnmfmfpdaaGreatDoor
open Go.RowKit
set_option linter.unusedVariables false
set_option linter.unusedSimpArgs false

/-- What the reference's Parse leaves. -/
def PsP (t : ByteArray) (w : World) (e : Ending) (w' : World) : Prop := Below w.heap.size w w' ∧
  match parseX t with
  | .inl T => ∃ v, e = .returned (.tuple #[v, .int .i64 (-1), .bool false]) ∧ Nv w' (fun g => w.heap.size ≤ g) v T
  | .inr (a, d) => e = .returned (.tuple #[.agg #[.string ⟨#[]⟩, .string ⟨#[]⟩, .int .i64 0, .int .i64 0, .int .i64 0, .slice none 0 0], .int .i64 (a : Nat), .bool d])
theorem declsX_no {E : Ax} {f : Nat} {ts : List Tr} {s : Sp} (h : (s.ok && kw s.l != 0) = false) : declsX E f ts s = (ts, s) := by
  cases f with
  | zero => rfl
  | succ f => unfold declsX; rw [h]; rfl
theorem declsX_on {E : Ax} {f : Nat} {ts : List Tr} {s : Sp} (hf : 0 < f) (h : (s.ok && kw s.l != 0) = true) : declsX E f ts s = declsX E (f - 1) (ts ++ [(declX E s).1]) (declX E s).2 := by
  cases f with
  | zero => omega
  | succ f => rw [declsX, h]; rfl
def msX (s : Sp) : Nat := if s.ok then s.l.length + 1 else 0
set_option maxRecDepth 100000 in
set_option maxHeartbeats 4000000 in
theorem rparse_bad (t : ByteArray) (w : World) (hs : t.size ≤ 3000) (R0 : List Wd) (bd0 : Nat) (hx : cutF t 0 = (R0, some bd0)) : Calls Tryz.prog 8 #[.string t] w fun e w' => PsP t w e w' := by
  have HB := hid (B6.new w 32 (.string ⟨#[]⟩) (.string ⟨#[]⟩) (.int .i64 0) (.int .i64 0) (.int .i64 0) (.slice none 0 0))
  have HS0 : Hid (Below w.heap.size w (w.alloc (.cells #[.string ⟨#[]⟩, .string ⟨#[]⟩, .int .i64 0, .int .i64 0, .int .i64 0, .slice none 0 0] 32))) := (Below.refl _ _).alloc (Nat.le_refl _) _
  have WS := hid (show w.heap.size < (w.alloc (.cells #[.string ⟨#[]⟩, .string ⟨#[]⟩, .int .i64 0, .int .i64 0, .int .i64 0, .slice none 0 0] 32)).heap.size from by simp)
  have CC := hid (fun w => show Calls Tryz.prog 18 #[.string t] w fun e w' => Below w.heap.size w w' ∧ e = .returned (.tuple #[.slice none 0 0, .int .i64 (bd0 : Nat)]) from (YCut_any t w hs).mono fun e w' h => by
    unfold CutY at h
    rw [hx] at h
    exact h)
  have PX := hid (show parseX t = .inr (bd0, false) from by unfold parseX; rw [hx])
  have z : (0 : Int) ≤ (bd0 : Int) := by omega
  clear hx
  go_enter Tryz.func8, Tryz.ntmps8
  go_upto_region 1 with fail
  generalize World.alloc w _ = w1 at *
  have C1 := hid (CC.out w1)
  go_upto_region 3 with (go_at_call 18; with_reducible refine Calls.mono C1.out ?_; rintro e w2 ⟨b2, rfl⟩; replace HB := hid (HB.out.next b2); replace HS0 := hid (nextB HS0.out b2); clear b2 C1)
  obtain ⟨h0, h1, h2, h3, h4, h5, hz⟩ := HB.out
  have BF := hid (HB.out.sets (.string ⟨#[]⟩) (.string ⟨#[]⟩) (.int .i64 0) (.int .i64 0) (.int .i64 0) (.slice none 0 0))
  have BL := hid ((((((HS0.out.setCell (p := ⟨w.heap.size, 0, none⟩) (Nat.le_refl _) (.string ⟨#[]⟩)).setCell (p := ⟨w.heap.size, 1, none⟩) (Nat.le_refl _) (.string ⟨#[]⟩)).setCell (p := ⟨w.heap.size, 2, none⟩) (Nat.le_refl _) (.int .i64 0)).setCell (p := ⟨w.heap.size, 3, none⟩) (Nat.le_refl _) (.int .i64 0)).setCell (p := ⟨w.heap.size, 4, none⟩) (Nat.le_refl _) (.int .i64 0)).setCell (p := ⟨w.heap.size, 5, none⟩) (Nat.le_refl _) (.slice none 0 0))
  go_wp2_with fail
  generalize World.setCell _ ⟨w.heap.size, 5, none⟩ _ = wf at *
  obtain ⟨q0, q1, q2, q3, q4, q5, _⟩ := BF.out
  exact bodyPost_ret (v := .tuple #[.agg #[.string ⟨#[]⟩, .string ⟨#[]⟩, .int .i64 0, .int .i64 0, .int .i64 0, .slice none 0 0], .int .i64 (bd0 : Nat), .bool false]) (by simp [results, Tryz.results8, go_sem, q0, q1, q2, q3, q4, q5]) rfl  (by unfold PsP; rw [PX.out]; exact ⟨BL.out, rfl⟩)
set_option maxRecDepth 100000 in
set_option maxHeartbeats 4000000 in
theorem rparse_good (hD : ∀ (p b c : Nat) (ws : List Wo) (w : World) (s : Sp), Sw w p b c ws 0 s → Calls Tryz.prog 19 #[.pointer (some ⟨p, 0, none⟩)] w fun e w' => Rn w w' p b c ws 0 e (declX (recR 40).2 s)) (hL : ∀ s, 0 < s.l.length → (declX (recR 40).2 s).2.ok = false ∨ (declX (recR 40).2 s).2.l.length < s.l.length) (t : ByteArray) (w : World) (hs : t.size ≤ 3000) (RW : List Wd) (hx : cutF t 0 = (RW, none)) : Calls Tryz.prog 8 #[.string t] w fun e w' => PsP t w e w' := by
  have HB := hid (B6.new w 32 (.string ⟨#[]⟩) (.string ⟨#[]⟩) (.int .i64 0) (.int .i64 0) (.int .i64 0) (.slice none 0 0))
  have HS0 : Hid (Below w.heap.size w (w.alloc (.cells #[.string ⟨#[]⟩, .string ⟨#[]⟩, .int .i64 0, .int .i64 0, .int .i64 0, .slice none 0 0] 32))) := (Below.refl _ _).alloc (Nat.le_refl _) _
  have WS := hid (show w.heap.size < (w.alloc (.cells #[.string ⟨#[]⟩, .string ⟨#[]⟩, .int .i64 0, .int .i64 0, .int .i64 0, .slice none 0 0] 32)).heap.size from by simp)
  have CC := hid (fun w => show Calls Tryz.prog 18 #[.string t] w fun e w' => Below w.heap.size w w' ∧ ∃ v, e = .returned (.tuple #[v, .int .i64 (-1)]) ∧ Rw w' w.heap.size 59 t v RW from (YCut_any t w hs).mono fun e w' h => by
    unfold CutY at h
    rw [hx] at h
    exact h)
  obtain ⟨cf1, cf2⟩ := cut_finX t _ 0 RW (Nat.le_refl _) (Nat.zero_le _) hx
  have LN : RW.length ≤ 9000 := by omega
  have CF := hid cf2
  have DH := hid hD
  have LH := hid hL
  clear hD hL
  have PX := hid (show parseX t = parX (RW.map (wo t)) from by unfold parseX; rw [hx])
  obtain ⟨R, hR⟩ : ∃ R, PsP t w = R := ⟨_, rfl⟩
  have PR := hid hR
  show Calls _ _ _ _ fun e w' => PsP t w e w'
  clear cf1 cf2 hx hR
  go_enter Tryz.func8, Tryz.ntmps8
  go_upto_region 1 with fail
  generalize World.alloc w _ = w1 at *
  have C1 := hid (CC.out w1)
  go_upto_region 4 with (go_at_call 18; with_reducible refine Calls.mono C1.out ?_; rintro e w2 ⟨b2, v, rfl, rw2⟩; replace HB := hid (HB.out.next b2); replace HS0 := hid (nextB HS0.out b2); have RWH := hid rw2; have B2 := hid b2; clear b2 C1 rw2)
  obtain ⟨a0, cc, bb, rd⟩ := Rd4.of RWH.out
  have pos : 0 < RW.length := by obtain ⟨Q, x, e⟩ := CF.out; rw [e]; simp
  have RDH := hid rd
  have ev := rd.v
  have ea := rd.a pos
  subst ea
  have b2l : bb < w2.heap.size := by obtain ⟨y, hy⟩ : ∃ y, RW[0]? = some y := ⟨_, List.getElem?_eq_getElem pos⟩; exact World.block_lt_of_cell? _ _ (rd.c0 0 y hy)
  subst ev
  clear rd
  have PN := hid (Pr.new RDH.out b2l LN CF.out 58)
  have wl : RW.length = (RW.map (wo t)).length := by simp
  rw [wl]
  have bge : w.heap.size < bb := by
    rcases World.ownsRow.lt RWH.out bb rfl with ⟨z, _⟩
    have := WS.out
    omega
  have AL4 := hid (show Below w2.heap.size w2 (w2.alloc (.cells #[.slice (some ⟨bb, 0, none⟩) (RW.map (wo t)).length cc, .int .i64 0, .int .i64 (-1), .bool false, .int .i64 0] 58)) from (Below.refl _ _).alloc (Nat.le_refl _) _)
  have wpos : 0 < (RW.map (wo t)).length := by rw [List.length_map]; exact pos
  have wl9 : (RW.map (wo t)).length ≤ 9000 := by rw [List.length_map]; exact LN
  clear wl RDH RWH CF LN pos
  generalize RW.map (wo t) = ws at *
  go_upto_region 5 with fail
  replace HB := hid (HB.out.next AL4.out)
  replace HS0 := hid (nextB HS0.out AL4.out)
  clear AL4 B2
  generalize World.alloc w2 _ = w3 at *
  generalize w2.heap.size = p at *
  obtain ⟨x0, hx0⟩ : ∃ x, ws[0]? = some x := ⟨_, List.getElem?_eq_getElem wpos⟩
  have ax : aw ws = x0.a := by
    cases ws with
    | nil => simp at wpos
    | cons y l => simp at hx0; subst hx0; rfl
  have d3 : w3.cell? ⟨bb, 3, none⟩ = some (.int .i64 (aw ws : Nat)) := by have := PN.out.w3 0 x0 hx0; rw [ax]; simpa using this
  clear hx0 ax
  have wp0 : (0 : Int) < (ws.length : Int) := by omega
  go_wp2_with fail
  have AL5 := hid (show Below w3.heap.size w3 (w3.alloc (.cells #[.string ⟨#[115, 116, 97, 116, 117, 116, 101]⟩, .string ⟨#[]⟩, .int .i64 0, .int .i64 0, .int .i64 (aw ws : Nat), .slice none 0 0] 32)) from (Below.refl _ _).alloc (Nat.le_refl _) _)
  have TP := hid (show Tp w (w3.alloc (.cells #[.string ⟨#[115, 116, 97, 116, 117, 116, 101]⟩, .string ⟨#[]⟩, .int .i64 0, .int .i64 0, .int .i64 (aw ws : Nat), .slice none 0 0] 32)) p bb cc ws w3.heap.size (aw ws) (.slice none 0 0) [] ⟨ws, none, false⟩ from ⟨⟨0, rfl, PN.out.next AL5.out⟩, nextB HS0.out AL5.out, HB.out.next AL5.out, B6.new w3 32 _ _ _ _ _ _, Ky.nil _ _, bge, b2l, PN.out.pl⟩)
  clear AL5 PN HB HS0 WS d3 wp0
  generalize World.alloc w3 _ = w4 at *
  generalize w3.heap.size = q at *
  obtain ⟨RR, hRR⟩ : ∃ RR, declsX (recR 40).2 ws.length [] ⟨ws, none, false⟩ = RR := ⟨_, rfl⟩
  have RH := hid hRR
  have PY := hid (show parX ws = (match RR.2.b with | none => .inl (.nd sStatute ⟨#[]⟩ 0 0 (aw ws) RR.1) | some a => .inr (a, RR.2.e)) from by unfold parX; rw [hRR]; rfl)
  clear hRR
  go_loopg [44] (ws.length + 1) (fun g ov wr => ∃ (f : Nat) (ts : List Tr) (sa : Option Addr) (sc : Nat) (z : Sp), g = msX z ∧ ts.length ≤ 9001 ∧ Hid (Tp w wr p bb cc ws q (aw ws) (.slice sa ts.length sc) ts z) ∧ Hid (declsX (recR 40).2 f ts z = RR ∧ (z.ok = true → z.l.length ≤ f ∧ ts.length + z.l.length ≤ 9000)))
  case atStart => exact ⟨ws.length, [], _, _, ⟨ws, none, false⟩, rfl, by decide, TP, ⟨RH.out, fun _ => ⟨Nat.le_refl _, by simpa using wl9⟩⟩⟩
  case round =>
    clear TP RH
    obtain ⟨f, ts, sa, sc, z, rfl, l32, TP, RI⟩ := hrel
    obtain ⟨k, el, qx⟩ := TP.out.hs.ex
    have c0 := qx.c0
    have c1 := qx.c1
    have c2 := qx.c2
    obtain ⟨x, cu⟩ := qx.cur
    have d0 := cu.d0
    have kx : kw z.l = x.k := by rw [el, cu.dr]; rfl
    have l1 : (k : Int) < (ws.length : Int) := by have := qx.lt; omega
    have l2 : ws.length ≤ 9000 := qx.len
    clear cu el qx
    cases zb : z.b with
    | some a =>
      rw [zb] at c2
      have c2' : wr.cell? ⟨p, 2, none⟩ = some (.int .i64 (a : Nat)) := c2
      have za : ¬ (a : Int) < 0 := by omega
      have dz : decide ((a : Int) < 0) = false := decide_eq_false za
      have RZ := hid (show RR = (ts, z) from by rw [← RI.out.1]; exact declsX_no (by unfold Sp.ok; rw [zb]; rfl))
      have ZB := hid zb
      clear c2 zb
      go_upto_region 6 with fail
      go_quiet (fail)
      go_upto_region 9 with fail
      replace TP := hid (TP.out.next (drewN_below wr nq))
      clear c0 c1 c2' d0 dz
      generalize wr.drewN nq = w5 at *
      obtain ⟨k9, el9, q9⟩ := TP.out.hs.ex
      have b2 := q9.c2
      rw [ZB.out] at b2
      have b2' : w5.cell? ⟨p, 2, none⟩ = some (.int .i64 (a : Nat)) := b2
      have b3 : w5.cell? ⟨p, 3, none⟩ = some (.bool z.e) := q9.c3
      have rp : w.heap.size ≠ p := by have := TP.out.rb; have := TP.out.bp; omega
      clear b2 el9 q9
      refine wp_region_held_drew (S := (fun W => W.cell? ⟨p, 2, none⟩ = some (.int .i64 (a : Nat)) ∧ W.cell? ⟨p, 3, none⟩ = some (.bool z.e))) (by kernel_rfl) ⟨b2', b3⟩ (fun hHeld => ?_)
      have TP6 := hid (TP.out.next (Below.refl _ _).drew)
      clear TP
      generalize w5.drew = w6 at *
      obtain ⟨h0, h1, h2, h3, h4, h5, hz⟩ := TP6.out.hb
      refine take2 rfl (i := 0) (v := (.agg #[.string ⟨#[]⟩, .string ⟨#[]⟩, .int .i64 0, .int .i64 0, .int .i64 0, .slice none 0 0])) (d := 57) rfl rfl (by kernel_rfl) (by kernel_rfl) (by kernel_rfl) (fun _ _ _ h => h) (Or.inl ⟨by rfl, ?_⟩) hHeld ?_
      · (intro W hW; (try dsimp only at hW); go_simp)
      try simp only [Act.put, List.setIfInBounds_toArray, List.set_cons_zero, List.set_cons_succ]
      refine take2 rfl (i := 1) (v := (.pointer (some ⟨p, 0, none⟩))) (d := 58) rfl rfl (by kernel_rfl) (by kernel_rfl) (by kernel_rfl) (fun _ _ _ h => h) (Or.inl ⟨by rfl, ?_⟩) hHeld ?_
      · (intro W hW; (try dsimp only at hW); go_simp)
      try simp only [Act.put, List.setIfInBounds_toArray, List.set_cons_zero, List.set_cons_succ]
      refine take2 rfl (i := 2) (v := (.pointer (some ⟨p, 0, none⟩))) (d := 59) rfl rfl (by kernel_rfl) (by kernel_rfl) (by kernel_rfl) (fun _ _ _ h => h) (Or.inl ⟨by rfl, ?_⟩) hHeld ?_
      · (intro W hW; (try dsimp only at hW); go_simp)
      try simp only [Act.put, List.setIfInBounds_toArray, List.set_cons_zero, List.set_cons_succ]
      refine take2 rfl (i := 3) (v := (.pointer (some ⟨p, 2, none⟩))) (d := 60) rfl rfl (by kernel_rfl) (by kernel_rfl) (by kernel_rfl) (fun _ _ _ h => h) (Or.inl ⟨by rfl, ?_⟩) hHeld ?_
      · (intro W hW; (try dsimp only at hW); go_simp)
      try simp only [Act.put, List.setIfInBounds_toArray, List.set_cons_zero, List.set_cons_succ]
      refine take2 rfl (i := 4) (v := (.int .i64 (a : Nat))) (d := 61) rfl rfl (by kernel_rfl) (by kernel_rfl) (by kernel_rfl) (fun _ _ _ h => h) (Or.inl ⟨by rfl, ?_⟩) hHeld ?_
      · (intro W hW; (try dsimp only at hW); go_simp)
      try simp only [Act.put, List.setIfInBounds_toArray, List.set_cons_zero, List.set_cons_succ]
      refine take2 rfl (i := 5) (v := (.pointer (some ⟨p, 0, none⟩))) (d := 62) rfl rfl (by kernel_rfl) (by kernel_rfl) (by kernel_rfl) (fun _ _ _ h => h) (Or.inl ⟨by rfl, ?_⟩) hHeld ?_
      · (intro W hW; (try dsimp only at hW); go_simp)
      try simp only [Act.put, List.setIfInBounds_toArray, List.set_cons_zero, List.set_cons_succ]
      refine take2 rfl (i := 6) (v := (.pointer (some ⟨p, 0, none⟩))) (d := 63) rfl rfl (by kernel_rfl) (by kernel_rfl) (by kernel_rfl) (fun _ _ _ h => h) (Or.inl ⟨by rfl, ?_⟩) hHeld ?_
      · (intro W hW; (try dsimp only at hW); go_simp)
      try simp only [Act.put, List.setIfInBounds_toArray, List.set_cons_zero, List.set_cons_succ]
      refine take2 rfl (i := 7) (v := (.pointer (some ⟨p, 3, none⟩))) (d := 64) rfl rfl (by kernel_rfl) (by kernel_rfl) (by kernel_rfl) (fun _ _ _ h => h) (Or.inl ⟨by rfl, ?_⟩) hHeld ?_
      · (intro W hW; (try dsimp only at hW); go_simp)
      try simp only [Act.put, List.setIfInBounds_toArray, List.set_cons_zero, List.set_cons_succ]
      refine take2 rfl (i := 8) (v := (.bool z.e)) (d := 65) rfl rfl (by kernel_rfl) (by kernel_rfl) (by kernel_rfl) (fun _ _ _ h => h) (Or.inl ⟨by rfl, ?_⟩) hHeld ?_
      · (intro W hW; (try dsimp only at hW); go_simp)
      try simp only [Act.put, List.setIfInBounds_toArray, List.set_cons_zero, List.set_cons_succ]
      refine wpAnyH_ready (rs := [9]) (by kernel_rfl) (by simp) ?_
      refine cons2 rfl rfl (fun K9 hK => ?_)
      go_simp
      refine hK.out _ _ (⟨(cell_ne (by omega)).trans ((cell_ne (by omega)).trans ((cell_ne (by omega)).trans ((cell_ne (by omega)).trans ((cell_ne (by omega)).trans ((cell_ne (by omega)).trans hHeld.1))))), (cell_ne (by omega)).trans ((cell_ne (by omega)).trans ((cell_ne (by omega)).trans ((cell_ne (by omega)).trans ((cell_ne (by omega)).trans ((cell_ne (by omega)).trans hHeld.2)))))⟩) (fun hX => ?_)
      clear hK K9 hHeld
      have hHeld := hX
      clear hX
      try simp only [Act.put, List.setIfInBounds_toArray, List.set_cons_zero, List.set_cons_succ]
      refine take2 rfl (i := 10) (v := (.int .i64 (a : Nat))) (d := 3) rfl rfl (by kernel_rfl) (by kernel_rfl) (by kernel_rfl) (fun _ _ _ h => h) (Or.inl ⟨by rfl, ?_⟩) hHeld ?_
      · (intro W hW; (try dsimp only at hW); go_simp)
      try simp only [Act.put, List.setIfInBounds_toArray, List.set_cons_zero, List.set_cons_succ]
      refine take2 rfl (i := 11) (v := (.bool z.e)) (d := 4) rfl rfl (by kernel_rfl) (by kernel_rfl) (by kernel_rfl) (fun _ _ _ h => h) (Or.inl ⟨by rfl, ?_⟩) hHeld ?_
      · (intro W hW; (try dsimp only at hW); go_simp)
      try simp only [Act.put, List.setIfInBounds_toArray, List.set_cons_zero, List.set_cons_succ]
      refine wpAnyH_done (by kernel_rfl) ?_ _
      have BF := hid (TP6.out.hb.sets (.string ⟨#[]⟩) (.string ⟨#[]⟩) (.int .i64 0) (.int .i64 0) (.int .i64 0) (.slice none 0 0))
      have BL := hid (Below.put6X TP6.out.bl (q := w.heap.size) (Nat.le_refl _) (.string ⟨#[]⟩) (.string ⟨#[]⟩) (.int .i64 0) (.int .i64 0) (.int .i64 0) (.slice none 0 0))
      go_wp2_with fail
      generalize World.setCell _ ⟨w.heap.size, 5, none⟩ _ = wf at *
      obtain ⟨q0, q1, q2, q3, q4, q5, _⟩ := BF.out
      exact bodyPost_ret (v := .tuple #[.agg #[.string ⟨#[]⟩, .string ⟨#[]⟩, .int .i64 0, .int .i64 0, .int .i64 0, .slice none 0 0], .int .i64 (a : Nat), .bool z.e]) (by simp [results, Tryz.results8, go_sem, q0, q1, q2, q3, q4, q5]) rfl  (by unfold PsP; rw [PX.out, PY.out, RZ.out]; simp only [ZB.out]; first | exact ⟨BL.out, rfl⟩ | exact ⟨BL.out, trivial⟩)
    | none =>
      rw [zb] at c2
      have c2' : wr.cell? ⟨p, 2, none⟩ = some (.int .i64 (-1)) := c2
      have ZB := hid zb
      clear c2 zb
      by_cases hk : x.k = 0
      · have hk' : (x.k : Int) = 0 := by omega
        have RZ := hid (show RR = (ts, z) from by rw [← RI.out.1]; exact declsX_no (by rw [kx, hk]; simp))
        clear hk
        go_upto_region 6 with fail
        go_quiet (fail)
        go_upto_region 10 with fail
        replace TP := hid (TP.out.next (drewN_below wr nq))
        clear c0 c1 c2' d0 hk'
        generalize wr.drewN nq = w5 at *
        have a1 := TP.out.rb
        have a2 := TP.out.bp
        have a3 := TP.out.pq
        obtain ⟨sm, hsm⟩ : ∃ sm, ts.length = sm := ⟨_, rfl⟩
        rw [hsm] at TP
        clear hsm
        obtain ⟨h0, h1, h2, h3, h4, h5, hz⟩ := TP.out.hb
        obtain ⟨v0, v1, v2, v3, v4, v5, vz⟩ := TP.out.nb
        have BF := hid (TP.out.hb.sets (.string ⟨#[115, 116, 97, 116, 117, 116, 101]⟩) (.string ⟨#[]⟩) (.int .i64 0) (.int .i64 0) (.int .i64 (aw ws : Nat)) (.slice sa sm sc))
        have BL := hid (Below.put6X TP.out.bl (q := w.heap.size) (Nat.le_refl _) (.string ⟨#[115, 116, 97, 116, 117, 116, 101]⟩) (.string ⟨#[]⟩) (.int .i64 0) (.int .i64 0) (.int .i64 (aw ws : Nat)) (.slice sa sm sc))
        have NF := hid (Nd.put6x (q := w.heap.size) (m := w.heap.size) TP.out.ky.nd (by omega) (by omega) (.string ⟨#[115, 116, 97, 116, 117, 116, 101]⟩) (.string ⟨#[]⟩) (.int .i64 0) (.int .i64 0) (.int .i64 (aw ws : Nat)) (.slice sa sm sc))
        go_wp2_with fail
        generalize World.setCell _ ⟨w.heap.size, 5, none⟩ _ = wf at *
        obtain ⟨q0, q1, q2, q3, q4, q5, _⟩ := BF.out
        exact bodyPost_ret (v := .tuple #[.agg #[.string ⟨#[115, 116, 97, 116, 117, 116, 101]⟩, .string ⟨#[]⟩, .int .i64 0, .int .i64 0, .int .i64 (aw ws : Nat), .slice sa sm sc], .int .i64 (-1), .bool false]) (by simp [results, Tryz.results8, go_sem, q0, q1, q2, q3, q4, q5]) rfl  (by unfold PsP; rw [PX.out, PY.out, RZ.out]; simp only [ZB.out]; exact ⟨BL.out, _, rfl, _, rfl, NF.out⟩)
      · have hk' : ¬ (x.k : Int) = 0 := by omega
        have KN := hid hk
        have dk : decide ((x.k : Int) = 0) = false := decide_eq_false hk'
        clear hk
        go_upto_region 6 with fail
        go_quiet (fail)
        go_upto_region 7 with fail
        replace TP := hid (TP.out.next (drewN_below wr nq))
        clear c0 c1 c2' d0 hk' dk
        generalize wr.drewN nq = w5 at *
        have ZO := hid (show z.ok = true from by unfold Sp.ok; rw [ZB.out]; rfl)
        have FP := hid (show 0 < f from by have := (RI.out.2 ZO.out).1; have := TP.out.hs.len.1; omega)
        have LL := hid (LH.out z TP.out.hs.len.1)
        have KW := hid (show (z.ok && kw z.l != 0) = true from by rw [ZO.out, kx]; simpa using KN.out)
        have RZ0 := hid (show declsX (recR 40).2 (f - 1) (ts ++ [(declX (recR 40).2 z).1]) (declX (recR 40).2 z).2 = RR from by rw [← RI.out.1, declsX_on FP.out KW.out])
        obtain ⟨r, hr⟩ : ∃ r, declX (recR 40).2 z = r := ⟨_, rfl⟩
        have TP6 := hid (TP.out.next (Below.refl _ _).drew)
        have DC := hid (DH.out p bb cc ws _ _ TP6.out.hs)
        have QL6 := hid TP6.out.nb.lt
        have OL := hid (fun k e => (TP6.out.ky.lt k e).2)
        rw [hr] at DC RZ0 LL
        have RZ := RZ0
        clear RZ0 hr kx TP KW DH LH
        refine wp_region_held_drew (S := (fun W => True)) (by kernel_rfl) trivial (fun hHeld => ?_)
        generalize w5.drew = w6 at *
        have d5 := TP6.out.nb.c5
        refine take2 rfl (i := 0) (v := (.pointer (some ⟨q, 5, none⟩))) (d := 45) rfl rfl (by kernel_rfl) (by kernel_rfl) (by kernel_rfl) (fun _ _ _ h => h) (Or.inl ⟨by rfl, ?_⟩) hHeld ?_
        · (intro W hW; (try dsimp only at hW); go_simp)
        try simp only [Act.put, List.setIfInBounds_toArray, List.set_cons_zero, List.set_cons_succ]
        refine take2 rfl (i := 2) (v := (.pointer (some ⟨p, 0, none⟩))) (d := 47) rfl rfl (by kernel_rfl) (by kernel_rfl) (by kernel_rfl) (fun _ _ _ h => h) (Or.inl ⟨by rfl, ?_⟩) hHeld ?_
        · (intro W hW; (try dsimp only at hW); go_simp)
        try simp only [Act.put, List.setIfInBounds_toArray, List.set_cons_zero, List.set_cons_succ]
        refine wpAnyH_ready (rs := [1, 3]) (by kernel_rfl) (by simp) ?_
        refine cons22 rfl rfl rfl (fun K9 hK => ?_) (fun K9 hK => ?_)
        · go_simp
          go_wp2_with fail
          refine hK.out _ _ (trivial) (fun hX => ?_)
          clear hK K9 hHeld
          have hHeld := hX
          clear hX
          try simp only [Act.put, List.setIfInBounds_toArray, List.set_cons_zero, List.set_cons_succ]
          refine wpAnyH_ready (rs := [3]) (by kernel_rfl) (by simp) ?_
          refine cons2 rfl rfl (fun K9 hK => ?_)
          go_simp
          refine Calls.mono (DC.out) ?_
          rintro e w7 h7
          obtain ⟨g7, s7, sa7, sm7, sc7, rfl, nv7⟩ := h7.parts
          have NV7 := hid nv7
          have TP7 := hid (TP6.out.gr s7 g7)
          clear h7 g7 s7 nv7
          have e5 := TP7.out.nb.c5
          go_wp2_with fail
          refine hK.out _ _ (trivial) (fun hX => ?_)
          clear hK K9 hHeld
          have hHeld := hX
          clear hX
          try simp only [Act.put, List.setIfInBounds_toArray, List.set_cons_zero, List.set_cons_succ]
          refine wpAnyH_ready (rs := [4]) (by kernel_rfl) (by simp) ?_
          refine cons2 rfl rfl (fun K9 hK => ?_)
          go_simp
          have HS8 := hid (show Below w7.heap.size w7 (w7.alloc (.cells #[.string r.1.op, .string r.1.name, .int .i64 (r.1.kind : Nat), .int .i64 r.1.n, .int .i64 (r.1.pl : Nat), .slice sa7 sm7 sc7] 32)) from (Below.refl _ _).alloc (Nat.le_refl _) _)
          have F8 := hid (TP7.out.next HS8.out)
          have C8 := hid (show NC (w7.alloc (.cells #[.string r.1.op, .string r.1.name, .int .i64 (r.1.kind : Nat), .int .i64 r.1.n, .int .i64 (r.1.pl : Nat), .slice sa7 sm7 sc7] 32)) w7.heap.size 0 r.1 (.slice sa7 sm7 sc7) from ⟨by simp, by simp, by simp, by simp, by simp, by simp⟩)
          have N8 := hid (show Nd (w7.alloc (.cells #[.string r.1.op, .string r.1.name, .int .i64 (r.1.kind : Nat), .int .i64 r.1.n, .int .i64 (r.1.pl : Nat), .slice sa7 sm7 sc7] 32)) (fun g => q + 1 ≤ g ∧ some g ≠ (Value.slice sa ts.length sc).ownBlock) (.slice sa7 sm7 sc7) r.1.kids from NV7.out.keep fun g s l => ⟨⟨by have := QL6.out; omega, fun e => by have := OL.out g e.symm; omega⟩, HS8.out.block g l⟩)
          have ba8 := hid (show q + 1 ≤ (w7.alloc (.cells #[.string r.1.op, .string r.1.name, .int .i64 (r.1.kind : Nat), .int .i64 r.1.n, .int .i64 (r.1.pl : Nat), .slice sa7 sm7 sc7] 32)).heap.size from F8.out.nb.lt)
          have m5 := F8.out.nb.c5
          clear HS8 NV7
          go_wp2_with fail
          refine hK.out _ _ (trivial) (fun hX => ?_)
          clear hK K9 hHeld
          have hHeld := hX
          clear hX
          try simp only [Act.put, List.setIfInBounds_toArray, List.set_cons_zero, List.set_cons_succ]
          refine wpAnyH_ready (rs := [5]) (by kernel_rfl) (by simp) ?_
          refine cons2 rfl rfl (fun K9 hK => ?_)
          rw [if_pos (by kernel_rfl)]
          refine wp_addM (.tmp 46) (.tmp 49) rfl (q + 1) (.slice sa ts.length sc) ts r.1 (.slice sa7 sm7 sc7) rfl F8.out.ky w7.heap.size rfl C8.out N8.out (by omega) ba8.out ?_
          intro v9 w9 o9 g9
          obtain ⟨va, vm, vc, rfl, HVM⟩ := o9.sl3
          have F9 := hid (F8.out.kid g9 o9)
          have k5 := (F8.out.nb.grown g9 (F8.out.off (by omega))).c5
          have kz := (F8.out.nb.grown g9 (F8.out.off (by omega))).fz 5
          clear o9 g9
          refine hK.out _ _ (trivial) (fun hX => ?_)
          clear hK K9 hHeld
          have hHeld := hX
          clear hX
          try simp only [Act.put, List.setIfInBounds_toArray, List.set_cons_zero, List.set_cons_succ]
          refine take2 rfl (i := 6) (v := (.pointer (some ⟨q, 5, none⟩))) (d := 51) rfl rfl (by kernel_rfl) (by kernel_rfl) (by kernel_rfl) (fun _ _ _ h => h) (Or.inl ⟨by rfl, ?_⟩) hHeld ?_
          · (intro W hW; (try dsimp only at hW); go_simp)
          try simp only [Act.put, List.setIfInBounds_toArray, List.set_cons_zero, List.set_cons_succ]
          refine wpAnyH_ready (rs := [7]) (by kernel_rfl) (by simp) ?_
          refine cons2 rfl rfl (fun K9 hK => ?_)
          go_simp
          refine hK.out _ _ (trivial) (fun hX => ?_)
          clear hK K9 hHeld
          have hHeld := hX
          clear hX
          try simp only [Act.put, List.setIfInBounds_toArray, List.set_cons_zero, List.set_cons_succ]
          refine wpAnyH_done (by kernel_rfl) ?_ _
          go_wp2_with fail
          go_roundg (msX r.2)
          case measure =>
            have := LL.out
            have z1 : z.ok = true := ZO.out
            unfold msX
            rw [z1]
            rcases this with y | y
            · rw [y]; simp
            · split
              · simp; omega
              · simp
          case rel =>
            have e9 := HVM.out
            subst e9
            exact ⟨f - 1, ts ++ [r.1], va, vc, r.2, rfl, by rw [List.length_append]; show ts.length + 1 ≤ _; have := (RI.out.2 ZO.out).2; omega, F9, ⟨RZ.out, fun ok => by
              rcases LL.out with y | y
              · rw [y] at ok; cases ok
              · obtain ⟨x1, x2⟩ := RI.out.2 ZO.out
                exact ⟨by omega, by rw [List.length_append]; show ts.length + 1 + _ ≤ _; omega⟩⟩⟩
        · go_simp
          refine Calls.mono (DC.out) ?_
          rintro e w7 h7
          obtain ⟨g7, s7, sa7, sm7, sc7, rfl, nv7⟩ := h7.parts
          have NV7 := hid nv7
          have TP7 := hid (TP6.out.gr s7 g7)
          clear h7 g7 s7 nv7
          have e5 := TP7.out.nb.c5
          go_wp2_with fail
          refine hK.out _ _ (trivial) (fun hX => ?_)
          clear hK K9 hHeld
          have hHeld := hX
          clear hX
          try simp only [Act.put, List.setIfInBounds_toArray, List.set_cons_zero, List.set_cons_succ]
          refine wpAnyH_ready (rs := [1, 4]) (by kernel_rfl) (by simp) ?_
          refine cons22 rfl rfl rfl (fun K9 hK => ?_) (fun K9 hK => ?_)
          · go_simp
            go_wp2_with fail
            refine hK.out _ _ (trivial) (fun hX => ?_)
            clear hK K9 hHeld
            have hHeld := hX
            clear hX
            try simp only [Act.put, List.setIfInBounds_toArray, List.set_cons_zero, List.set_cons_succ]
            refine wpAnyH_ready (rs := [4]) (by kernel_rfl) (by simp) ?_
            refine cons2 rfl rfl (fun K9 hK => ?_)
            go_simp
            have HS8 := hid (show Below w7.heap.size w7 (w7.alloc (.cells #[.string r.1.op, .string r.1.name, .int .i64 (r.1.kind : Nat), .int .i64 r.1.n, .int .i64 (r.1.pl : Nat), .slice sa7 sm7 sc7] 32)) from (Below.refl _ _).alloc (Nat.le_refl _) _)
            have F8 := hid (TP7.out.next HS8.out)
            have C8 := hid (show NC (w7.alloc (.cells #[.string r.1.op, .string r.1.name, .int .i64 (r.1.kind : Nat), .int .i64 r.1.n, .int .i64 (r.1.pl : Nat), .slice sa7 sm7 sc7] 32)) w7.heap.size 0 r.1 (.slice sa7 sm7 sc7) from ⟨by simp, by simp, by simp, by simp, by simp, by simp⟩)
            have N8 := hid (show Nd (w7.alloc (.cells #[.string r.1.op, .string r.1.name, .int .i64 (r.1.kind : Nat), .int .i64 r.1.n, .int .i64 (r.1.pl : Nat), .slice sa7 sm7 sc7] 32)) (fun g => q + 1 ≤ g ∧ some g ≠ (Value.slice sa ts.length sc).ownBlock) (.slice sa7 sm7 sc7) r.1.kids from NV7.out.keep fun g s l => ⟨⟨by have := QL6.out; omega, fun e => by have := OL.out g e.symm; omega⟩, HS8.out.block g l⟩)
            have ba8 := hid (show q + 1 ≤ (w7.alloc (.cells #[.string r.1.op, .string r.1.name, .int .i64 (r.1.kind : Nat), .int .i64 r.1.n, .int .i64 (r.1.pl : Nat), .slice sa7 sm7 sc7] 32)).heap.size from F8.out.nb.lt)
            have m5 := F8.out.nb.c5
            clear HS8 NV7
            go_wp2_with fail
            refine hK.out _ _ (trivial) (fun hX => ?_)
            clear hK K9 hHeld
            have hHeld := hX
            clear hX
            try simp only [Act.put, List.setIfInBounds_toArray, List.set_cons_zero, List.set_cons_succ]
            refine wpAnyH_ready (rs := [5]) (by kernel_rfl) (by simp) ?_
            refine cons2 rfl rfl (fun K9 hK => ?_)
            rw [if_pos (by kernel_rfl)]
            refine wp_addM (.tmp 46) (.tmp 49) rfl (q + 1) (.slice sa ts.length sc) ts r.1 (.slice sa7 sm7 sc7) rfl F8.out.ky w7.heap.size rfl C8.out N8.out (by omega) ba8.out ?_
            intro v9 w9 o9 g9
            obtain ⟨va, vm, vc, rfl, HVM⟩ := o9.sl3
            have F9 := hid (F8.out.kid g9 o9)
            have k5 := (F8.out.nb.grown g9 (F8.out.off (by omega))).c5
            have kz := (F8.out.nb.grown g9 (F8.out.off (by omega))).fz 5
            clear o9 g9
            refine hK.out _ _ (trivial) (fun hX => ?_)
            clear hK K9 hHeld
            have hHeld := hX
            clear hX
            try simp only [Act.put, List.setIfInBounds_toArray, List.set_cons_zero, List.set_cons_succ]
            refine take2 rfl (i := 6) (v := (.pointer (some ⟨q, 5, none⟩))) (d := 51) rfl rfl (by kernel_rfl) (by kernel_rfl) (by kernel_rfl) (fun _ _ _ h => h) (Or.inl ⟨by rfl, ?_⟩) hHeld ?_
            · (intro W hW; (try dsimp only at hW); go_simp)
            try simp only [Act.put, List.setIfInBounds_toArray, List.set_cons_zero, List.set_cons_succ]
            refine wpAnyH_ready (rs := [7]) (by kernel_rfl) (by simp) ?_
            refine cons2 rfl rfl (fun K9 hK => ?_)
            go_simp
            refine hK.out _ _ (trivial) (fun hX => ?_)
            clear hK K9 hHeld
            have hHeld := hX
            clear hX
            try simp only [Act.put, List.setIfInBounds_toArray, List.set_cons_zero, List.set_cons_succ]
            refine wpAnyH_done (by kernel_rfl) ?_ _
            go_wp2_with fail
            go_roundg (msX r.2)
            case measure =>
              have := LL.out
              have z1 : z.ok = true := ZO.out
              unfold msX
              rw [z1]
              rcases this with y | y
              · rw [y]; simp
              · split
                · simp; omega
                · simp
            case rel =>
              have e9 := HVM.out
              subst e9
              exact ⟨f - 1, ts ++ [r.1], va, vc, r.2, rfl, by rw [List.length_append]; show ts.length + 1 ≤ _; have := (RI.out.2 ZO.out).2; omega, F9, ⟨RZ.out, fun ok => by
                rcases LL.out with y | y
                · rw [y] at ok; cases ok
                · obtain ⟨x1, x2⟩ := RI.out.2 ZO.out
                  exact ⟨by omega, by rw [List.length_append]; show ts.length + 1 + _ ≤ _; omega⟩⟩⟩
          · go_simp
            have HS8 := hid (show Below w7.heap.size w7 (w7.alloc (.cells #[.string r.1.op, .string r.1.name, .int .i64 (r.1.kind : Nat), .int .i64 r.1.n, .int .i64 (r.1.pl : Nat), .slice sa7 sm7 sc7] 32)) from (Below.refl _ _).alloc (Nat.le_refl _) _)
            have F8 := hid (TP7.out.next HS8.out)
            have C8 := hid (show NC (w7.alloc (.cells #[.string r.1.op, .string r.1.name, .int .i64 (r.1.kind : Nat), .int .i64 r.1.n, .int .i64 (r.1.pl : Nat), .slice sa7 sm7 sc7] 32)) w7.heap.size 0 r.1 (.slice sa7 sm7 sc7) from ⟨by simp, by simp, by simp, by simp, by simp, by simp⟩)
            have N8 := hid (show Nd (w7.alloc (.cells #[.string r.1.op, .string r.1.name, .int .i64 (r.1.kind : Nat), .int .i64 r.1.n, .int .i64 (r.1.pl : Nat), .slice sa7 sm7 sc7] 32)) (fun g => q + 1 ≤ g ∧ some g ≠ (Value.slice sa ts.length sc).ownBlock) (.slice sa7 sm7 sc7) r.1.kids from NV7.out.keep fun g s l => ⟨⟨by have := QL6.out; omega, fun e => by have := OL.out g e.symm; omega⟩, HS8.out.block g l⟩)
            have ba8 := hid (show q + 1 ≤ (w7.alloc (.cells #[.string r.1.op, .string r.1.name, .int .i64 (r.1.kind : Nat), .int .i64 r.1.n, .int .i64 (r.1.pl : Nat), .slice sa7 sm7 sc7] 32)).heap.size from F8.out.nb.lt)
            have m5 := F8.out.nb.c5
            clear HS8 NV7
            go_wp2_with fail
            refine hK.out _ _ (trivial) (fun hX => ?_)
            clear hK K9 hHeld
            have hHeld := hX
            clear hX
            try simp only [Act.put, List.setIfInBounds_toArray, List.set_cons_zero, List.set_cons_succ]
            refine wpAnyH_ready (rs := [1]) (by kernel_rfl) (by simp) ?_
            refine cons2 rfl rfl (fun K9 hK => ?_)
            go_simp
            go_wp2_with fail
            refine hK.out _ _ (trivial) (fun hX => ?_)
            clear hK K9 hHeld
            have hHeld := hX
            clear hX
            try simp only [Act.put, List.setIfInBounds_toArray, List.set_cons_zero, List.set_cons_succ]
            refine wpAnyH_ready (rs := [5]) (by kernel_rfl) (by simp) ?_
            refine cons2 rfl rfl (fun K9 hK => ?_)
            rw [if_pos (by kernel_rfl)]
            refine wp_addM (.tmp 46) (.tmp 49) rfl (q + 1) (.slice sa ts.length sc) ts r.1 (.slice sa7 sm7 sc7) rfl F8.out.ky w7.heap.size rfl C8.out N8.out (by omega) ba8.out ?_
            intro v9 w9 o9 g9
            obtain ⟨va, vm, vc, rfl, HVM⟩ := o9.sl3
            have F9 := hid (F8.out.kid g9 o9)
            have k5 := (F8.out.nb.grown g9 (F8.out.off (by omega))).c5
            have kz := (F8.out.nb.grown g9 (F8.out.off (by omega))).fz 5
            clear o9 g9
            refine hK.out _ _ (trivial) (fun hX => ?_)
            clear hK K9 hHeld
            have hHeld := hX
            clear hX
            try simp only [Act.put, List.setIfInBounds_toArray, List.set_cons_zero, List.set_cons_succ]
            refine take2 rfl (i := 6) (v := (.pointer (some ⟨q, 5, none⟩))) (d := 51) rfl rfl (by kernel_rfl) (by kernel_rfl) (by kernel_rfl) (fun _ _ _ h => h) (Or.inl ⟨by rfl, ?_⟩) hHeld ?_
            · (intro W hW; (try dsimp only at hW); go_simp)
            try simp only [Act.put, List.setIfInBounds_toArray, List.set_cons_zero, List.set_cons_succ]
            refine wpAnyH_ready (rs := [7]) (by kernel_rfl) (by simp) ?_
            refine cons2 rfl rfl (fun K9 hK => ?_)
            go_simp
            refine hK.out _ _ (trivial) (fun hX => ?_)
            clear hK K9 hHeld
            have hHeld := hX
            clear hX
            try simp only [Act.put, List.setIfInBounds_toArray, List.set_cons_zero, List.set_cons_succ]
            refine wpAnyH_done (by kernel_rfl) ?_ _
            go_wp2_with fail
            go_roundg (msX r.2)
            case measure =>
              have := LL.out
              have z1 : z.ok = true := ZO.out
              unfold msX
              rw [z1]
              rcases this with y | y
              · rw [y]; simp
              · split
                · simp; omega
                · simp
            case rel =>
              have e9 := HVM.out
              subst e9
              exact ⟨f - 1, ts ++ [r.1], va, vc, r.2, rfl, by rw [List.length_append]; show ts.length + 1 ≤ _; have := (RI.out.2 ZO.out).2; omega, F9, ⟨RZ.out, fun ok => by
                rcases LL.out with y | y
                · rw [y] at ok; cases ok
                · obtain ⟨x1, x2⟩ := RI.out.2 ZO.out
                  exact ⟨by omega, by rw [List.length_append]; show ts.length + 1 + _ ≤ _; omega⟩⟩⟩
theorem parse_of (hD : ∀ (p b c : Nat) (ws : List Wo) (w : World) (s : Sp), Sw w p b c ws 0 s → Calls Tryz.prog 19 #[.pointer (some ⟨p, 0, none⟩)] w fun e w' => Rn w w' p b c ws 0 e (declX (recR 40).2 s)) (hL : ∀ s, 0 < s.l.length → (declX (recR 40).2 s).2.ok = false ∨ (declX (recR 40).2 s).2.l.length < s.l.length) (t : ByteArray) (w : World) (hs : t.size ≤ 3000) : Calls Tryz.prog 8 #[.string t] w fun e w' => PsP t w e w' := by
  cases h : cutF t 0 with
  | mk R o =>
    cases o with
    | none => exact rparse_good hD hL t w hs R h
    | some b => exact rparse_bad t w hs R b h
end Go.Proofs.YtiikdmnmfmfpdaaGreatDoor

namespace Go.Proofs.YtiikdmnmfmfpdaaGreatDoor
open Go.RowKit
set_option linter.unusedVariables false
set_option linter.unusedSimpArgs false

theorem rparse_any (t : ByteArray) (w : World) (hs : t.size ≤ 3000) : Calls Tryz.prog 8 #[.string t] w fun e w' => PsP t w e w' :=
  parse_of (fun p b c ws w s h => rdecl_any w s h) (fun s h => decl_less _ (mo_rec 40).2 s h) t w hs
end Go.Proofs.YtiikdmnmfmfpdaaGreatDoor

namespace Go.Proofs.YtiikdmnmfmfpdaaGreatDoor
open Go.RowKit
set_option linter.unusedVariables false
set_option linter.unusedSimpArgs false

/-- A tree whose nodes have few kids each. -/
inductive Sz : Tr → Prop
  | mk (t : Tr) (h : t.kids.length ≤ 10000) (hk : ∀ k, k ∈ t.kids → Sz k) : Sz t
theorem Kr.sl3 {w : World} {base : Nat} {v : Value} {ts : List Tr} (h : Kr w base v ts) : ∃ sa sm sc, v = .slice sa sm sc ∧ Hid (sm = ts.length) := by
  cases h.nd with
  | nil => exact ⟨_, _, _, rfl, rfl⟩
  | row g c ts sl hs h0 hc hk => exact ⟨_, _, _, rfl, rfl⟩
/-- What a round of Back finds. -/
structure Tk (w wr : World) (r q : Nat) (t : Tr) (sl slm : Value) (ts : List Tr) : Prop where
  bl : Below w.heap.size w wr
  b1 : B6 wr w.heap.size (.string t.op) (.string t.name) (.int .i64 (t.kind : Nat)) (.int .i64 t.n) (.int .i64 (t.pl : Nat)) sl
  hb : B6 wr r (.string ⟨#[]⟩) (.string ⟨#[]⟩) (.int .i64 0) (.int .i64 0) (.int .i64 0) (.slice none 0 0)
  nb : B6 wr q (.string t.op) (.string t.name) (.int .i64 (t.kind : Nat)) (.int .i64 t.n) (.int .i64 (t.pl : Nat)) slm
  ky : Kr wr (q + 1) slm ts
  o1 : w.heap.size < r
  o2 : r < q
theorem Tk.next {w wr w' : World} {r q : Nat} {t : Tr} {sl slm : Value} {ts : List Tr} (h : Tk w wr r q t sl slm ts) (k : Below wr.heap.size wr w') : Tk w w' r q t sl slm ts :=
  ⟨nextB h.bl k, h.b1.next k, h.hb.next k, h.nb.next k, h.ky.next k, h.o1, h.o2⟩
theorem Tk.off {w wr : World} {r q : Nat} {t : Tr} {sl slm : Value} {ts : List Tr} (h : Tk w wr r q t sl slm ts) {x : Nat} (hx : x ≤ q) : some x ≠ slm.ownBlock := fun e => by
  have := (h.ky.lt x e.symm).1
  omega
theorem Tk.kid {w wr w' : World} {r q : Nat} {t : Tr} {sl slm v : Value} {ts ts' : List Tr} (h : Tk w wr r q t sl slm ts) (g2 : wr.grownBy w' slm.ownBlock) (o2 : Kr w' (q + 1) v ts') : Tk w (w'.setCell ⟨q, 5, none⟩ v) r q t sl v ts' := by
  have a1 := h.o1
  have a2 := h.o2
  have bl : Below w.heap.size w w' := ⟨g2.os.trans h.bl.os, g2.tape.trans h.bl.tape, g2.output.trans h.bl.output, Nat.le_trans h.bl.size g2.size, fun i hi => (g2.block i (Nat.lt_of_lt_of_le hi h.bl.size) (h.off (by omega))).trans (h.bl.block i hi)⟩
  exact ⟨bl.setCell (p := ⟨q, 5, none⟩) (by show _ ≤ q; omega) _, (h.b1.grown g2 (h.off (by omega))).put (by omega) _, (h.hb.grown g2 (h.off (by omega))).put (by omega) _, (h.nb.grown g2 (h.off (by omega))).set5 _, o2.put (by omega) _, h.o1, h.o2⟩
/-- What Back leaves. -/
def BkP (t : Tr) (w : World) (e : Ending) (w' : World) : Prop := Below w.heap.size w w' ∧ ∃ v, e = .returned v ∧ Nv w' (fun g => w.heap.size ≤ g) v t
theorem Nd.atX {w : World} {S : Nat → Prop} {v : Value} {ts : List Tr} (h : Nd w S v ts) (h0 : ts ≠ []) : ∃ (g c : Nat) (sl : Nat → Value), v = .slice (some ⟨g, 0, none⟩) ts.length c ∧ S g ∧ (∀ i t, ts[i]? = some t → NC w g (i * 6) t (sl i)) ∧ (∀ i t, ts[i]? = some t → Nd w S (sl i) t.kids) := by
  cases h with
  | nil => exact absurd rfl h0
  | row g c ts sl hs h0 hc hk => exact ⟨g, c, sl, rfl, hs, hc, hk⟩
set_option maxRecDepth 100000 in
set_option maxHeartbeats 4000000 in
theorem back_step (t : Tr) (hl : t.kids.length ≤ 10000) (ih : ∀ k, k ∈ t.kids → ∀ (w : World) (v : Value), Nv w (fun _ => True) v k → Calls Tryz.prog 20 #[v] w fun e w' => BkP k w e w') (w : World) (v : Value) (h : Nv w (fun _ => True) v t) : Calls Tryz.prog 20 #[v] w fun e w' => BkP t w e w' := by
  obtain ⟨sl, rfl, nd⟩ := h
  obtain ⟨sa, sm, sc, rfl⟩ := nd.slice
  have SM : sm = t.kids.length := by
    cases hk : t.kids with
    | nil => rw [hk] at nd; cases nd with
      | nil => rfl
      | row g c ts sl hs h0 hc hk => exact absurd rfl h0
    | cons x l => obtain ⟨g, c, sl, e, _, _, _⟩ := nd.atX (by rw [hk]; simp); injection e with e1 e2; rw [e2, hk]
  subst SM
  have ND := hid nd
  have IH := hid ih
  have HL := hid hl
  clear nd ih
  go_enter Tryz.func20, Tryz.ntmps20
  go_upto_region 2 with fail
  have A1 := hid (show Below w.heap.size w (((w.alloc (.cells #[.string t.op, .string t.name, .int .i64 (t.kind : Nat), .int .i64 t.n, .int .i64 (t.pl : Nat), .slice sa t.kids.length sc] 32)).alloc (.cells #[.string ⟨#[]⟩, .string ⟨#[]⟩, .int .i64 0, .int .i64 0, .int .i64 0, .slice none 0 0] 26)).alloc (.cells #[.string t.op, .string t.name, .int .i64 (t.kind : Nat), .int .i64 t.n, .int .i64 (t.pl : Nat), .slice none 0 0] 26)) from (((Below.refl _ _).alloc (Nat.le_refl _) _).alloc (by simp) _).alloc (by simp; omega) _)
  have TK := hid (show Tk w (((w.alloc (.cells #[.string t.op, .string t.name, .int .i64 (t.kind : Nat), .int .i64 t.n, .int .i64 (t.pl : Nat), .slice sa t.kids.length sc] 32)).alloc (.cells #[.string ⟨#[]⟩, .string ⟨#[]⟩, .int .i64 0, .int .i64 0, .int .i64 0, .slice none 0 0] 26)).alloc (.cells #[.string t.op, .string t.name, .int .i64 (t.kind : Nat), .int .i64 t.n, .int .i64 (t.pl : Nat), .slice none 0 0] 26)) (w.heap.size + 1) (w.heap.size + 1 + 1) t (.slice sa t.kids.length sc) (.slice none 0 0) [] from by
    have s1 : (w.alloc (.cells #[.string t.op, .string t.name, .int .i64 (t.kind : Nat), .int .i64 t.n, .int .i64 (t.pl : Nat), .slice sa t.kids.length sc] 32)).heap.size = w.heap.size + 1 := by simp
    have s2 : ((w.alloc (.cells #[.string t.op, .string t.name, .int .i64 (t.kind : Nat), .int .i64 t.n, .int .i64 (t.pl : Nat), .slice sa t.kids.length sc] 32)).alloc (.cells #[.string ⟨#[]⟩, .string ⟨#[]⟩, .int .i64 0, .int .i64 0, .int .i64 0, .slice none 0 0] 26)).heap.size = w.heap.size + 1 + 1 := by simp
    refine ⟨A1.out, ((B6.new w 32 _ _ _ _ _ _).next ((Below.refl _ _).alloc (Nat.le_refl _) _)).next ((Below.refl _ _).alloc (Nat.le_refl _) _), ?_, ?_, Kr.nil _ _, by omega, by omega⟩
    · have := (B6.new (w.alloc (.cells #[.string t.op, .string t.name, .int .i64 (t.kind : Nat), .int .i64 t.n, .int .i64 (t.pl : Nat), .slice sa t.kids.length sc] 32)) 26 (.string ⟨#[]⟩) (.string ⟨#[]⟩) (.int .i64 0) (.int .i64 0) (.int .i64 0) (.slice none 0 0)).next ((Below.refl _ _).alloc (Nat.le_refl _) (.cells #[.string t.op, .string t.name, .int .i64 (t.kind : Nat), .int .i64 t.n, .int .i64 (t.pl : Nat), .slice none 0 0] 26)); rw [s1] at this; exact this
    · have := B6.new ((w.alloc (.cells #[.string t.op, .string t.name, .int .i64 (t.kind : Nat), .int .i64 t.n, .int .i64 (t.pl : Nat), .slice sa t.kids.length sc] 32)).alloc (.cells #[.string ⟨#[]⟩, .string ⟨#[]⟩, .int .i64 0, .int .i64 0, .int .i64 0, .slice none 0 0] 26)) 26 (.string t.op) (.string t.name) (.int .i64 (t.kind : Nat)) (.int .i64 t.n) (.int .i64 (t.pl : Nat)) (.slice none 0 0); rw [s2] at this; exact this)
  clear A1
  generalize World.alloc (World.alloc (World.alloc w _) _) _ = w1 at *
  generalize w.heap.size + 1 + 1 = q at *
  generalize w.heap.size + 1 = r at *
  go_wp2_with fail
  go_loopg [4] (t.kids.length) (fun g iv wr => ∃ (j : Nat) (ma : Option Addr) (mm mc : Nat), j ≤ t.kids.length ∧ g = t.kids.length - j ∧ iv = .int .i64 (j : Nat) ∧ Hid (Tk w wr r q t (.slice sa t.kids.length sc) (.slice ma mm mc) (t.kids.take j)))
  case atStart => exact ⟨0, _, _, _, Nat.zero_le _, rfl, rfl, TK⟩
  case round =>
    clear TK
    obtain ⟨j, ma, mm, mc, jl, rfl, rfl, TK⟩ := hrel
    have d5 := TK.out.b1.c5
    by_cases hj : j < t.kids.length
    · have hj' : (j : Int) < (t.kids.length : Int) := by omega
      obtain ⟨k, hk⟩ : ∃ k, t.kids[j]? = some k := ⟨_, List.getElem?_eq_getElem hj⟩
      have KM := hid (List.mem_of_getElem? hk)
      have TKE := hid (show t.kids.take (j + 1) = t.kids.take j ++ [k] from by rw [List.take_add_one, hk]; rfl)
      have ND1 := hid (ND.out.keep (w' := wr) (S' := fun g => g < w.heap.size) fun g s l => ⟨l, TK.out.bl.block g l⟩)
      obtain ⟨g0, c0, slk, e0, g0l, hc, hn⟩ := ND1.out.atX (by intro z; rw [z] at hk; simp at hk)
      have KC0 := hid (hc j k hk)
      have KN0 := hid (hn j k hk)
      obtain ⟨ka, km, kc, ek⟩ := KN0.out.slice
      rw [ek] at KC0 KN0
      injection e0 with e1 _ e2
      subst e1 e2
      have g0l : g0 < w.heap.size := g0l
      clear hc hn ek hk ND1
      have KL9 : (t.kids.length : Int) ≤ 10000 := by have := HL.out; omega
      go_upto_region 5 with fail
      have TK6 := hid (TK.out.next (Below.refl _ _).drew)
      have HH := hid (show wr.cell? ⟨w.heap.size, 5, none⟩ = some (.slice (some ⟨g0, 0, none⟩) t.kids.length sc) ∧ NC wr g0 (j * 6) k (.slice ka km kc) from ⟨d5, KC0.out⟩)
      have IC := hid (IH.out k KM.out wr.drew (.agg #[.string k.op, .string k.name, .int .i64 (k.kind : Nat), .int .i64 k.n, .int .i64 (k.pl : Nat), .slice ka km kc]) ⟨_, rfl, KN0.out.keep fun g s l => ⟨trivial, rfl⟩⟩)
      have QL6 := hid TK6.out.nb.lt
      have OL := hid (fun k e => (TK6.out.ky.lt k e).2)
      clear TK KC0 KN0 IH ND d5
      refine wp_region_held_drew (S := (fun W => W.cell? ⟨w.heap.size, 5, none⟩ = some (.slice (some ⟨g0, 0, none⟩) t.kids.length sc) ∧ NC W g0 (j * 6) k (.slice ka km kc))) (by kernel_rfl) ⟨HH.out.1, HH.out.2.keep rfl⟩ (fun hHeld => ?_)
      clear HH
      generalize wr.drew = w6 at *
      have d5 := TK6.out.nb.c5
      refine take2 rfl (i := 0) (v := (.pointer (some ⟨q, 5, none⟩))) (d := 23) rfl rfl (by kernel_rfl) (by kernel_rfl) (by kernel_rfl) (fun _ _ _ h => h) (Or.inl ⟨by rfl, ?_⟩) hHeld ?_
      · (intro W hW; (try dsimp only at hW); go_simp)
      try simp only [Act.put, List.setIfInBounds_toArray, List.set_cons_zero, List.set_cons_succ]
      refine take2 rfl (i := 2) (v := (.pointer (some ⟨w.heap.size, 5, none⟩))) (d := 25) rfl rfl (by kernel_rfl) (by kernel_rfl) (by kernel_rfl) (fun _ _ _ h => h) (Or.inl ⟨by rfl, ?_⟩) hHeld ?_
      · (intro W hW; (try dsimp only at hW); go_simp)
      try simp only [Act.put, List.setIfInBounds_toArray, List.set_cons_zero, List.set_cons_succ]
      refine take2 rfl (i := 3) (v := (.slice (some ⟨g0, 0, none⟩) t.kids.length sc)) (d := 26) rfl rfl (by kernel_rfl) (by kernel_rfl) (by kernel_rfl) (fun _ _ _ h => h) (Or.inl ⟨by rfl, ?_⟩) hHeld ?_
      · (intro W hW; (try dsimp only at hW); go_simp)
      try simp only [Act.put, List.setIfInBounds_toArray, List.set_cons_zero, List.set_cons_succ]
      refine take2 rfl (i := 4) (v := (.int .i64 (j : Nat))) (d := 27) rfl rfl (by kernel_rfl) (by kernel_rfl) (by kernel_rfl) (fun _ _ _ h => h) (Or.inl ⟨by rfl, ?_⟩) hHeld ?_
      · (intro W hW; (try dsimp only at hW); go_simp)
      try simp only [Act.put, List.setIfInBounds_toArray, List.set_cons_zero, List.set_cons_succ]
      refine take2 rfl (i := 5) (v := (.pointer (some ⟨g0, j * 6, none⟩))) (d := 28) rfl rfl (by kernel_rfl) (by kernel_rfl) (by kernel_rfl) (fun _ _ _ h => h) (Or.inl ⟨by rfl, ?_⟩) hHeld ?_
      · (intro W hW; (try dsimp only at hW); go_simp)
      try simp only [Act.put, List.setIfInBounds_toArray, List.set_cons_zero, List.set_cons_succ]
      refine take2 rfl (i := 6) (v := (.agg #[.string k.op, .string k.name, .int .i64 (k.kind : Nat), .int .i64 k.n, .int .i64 (k.pl : Nat), .slice ka km kc])) (d := 29) rfl rfl (by kernel_rfl) (by kernel_rfl) (by kernel_rfl) (fun _ _ _ h => h) (Or.inl ⟨by rfl, ?_⟩) hHeld ?_
      · (intro W hW; (try dsimp only at hW); obtain ⟨hW0, hW1, hW2, hW3, hW4, hW5⟩ := hW.2; go_simp)
      try simp only [Act.put, List.setIfInBounds_toArray, List.set_cons_zero, List.set_cons_succ]
      refine wpAnyH_ready (rs := [1, 7]) (by kernel_rfl) (by simp) ?_
      refine cons22 rfl rfl rfl (fun K9 hK => ?_) (fun K9 hK => ?_)
      · go_simp
        go_wp2_with fail
        refine hK.out _ _ (hHeld) (fun hX => ?_)
        clear hK K9 hHeld
        have hHeld := hX
        clear hX
        try simp only [Act.put, List.setIfInBounds_toArray, List.set_cons_zero, List.set_cons_succ]
        refine wpAnyH_ready (rs := [7]) (by kernel_rfl) (by simp) ?_
        refine cons2 rfl rfl (fun K9 hK => ?_)
        go_simp
        refine Calls.mono (IC.out) ?_
        rintro e w7 ⟨b7, v7, rfl, sl7, rfl, nv7⟩
        obtain ⟨sa7, sm7, sc7, rfl⟩ := nv7.slice
        have NV7 := hid nv7
        have TK7 := hid (TK6.out.next b7)
        have e5 := TK7.out.nb.c5
        have B7 := hid b7
        clear nv7 b7
        go_wp2_with fail
        refine hK.out _ _ (⟨(World.cell?_of_block (a := ⟨w.heap.size, 5, none⟩) (B7.out.block w.heap.size TK6.out.b1.lt)).trans hHeld.1, hHeld.2.keep (B7.out.block g0 (by have := TK6.out.b1.lt; omega))⟩) (fun hX => ?_)
        clear hK K9 hHeld
        have hHeld := hX
        clear hX
        try simp only [Act.put, List.setIfInBounds_toArray, List.set_cons_zero, List.set_cons_succ]
        refine wpAnyH_ready (rs := [8]) (by kernel_rfl) (by simp) ?_
        refine cons2 rfl rfl (fun K9 hK => ?_)
        go_simp
        have HS8 := hid (show Below w7.heap.size w7 (w7.alloc (.cells #[.string k.op, .string k.name, .int .i64 (k.kind : Nat), .int .i64 k.n, .int .i64 (k.pl : Nat), .slice sa7 sm7 sc7] 26)) from (Below.refl _ _).alloc (Nat.le_refl _) _)
        have F8 := hid (TK7.out.next HS8.out)
        have C8 := hid (show NC (w7.alloc (.cells #[.string k.op, .string k.name, .int .i64 (k.kind : Nat), .int .i64 k.n, .int .i64 (k.pl : Nat), .slice sa7 sm7 sc7] 26)) w7.heap.size 0 k (.slice sa7 sm7 sc7) from ⟨by simp, by simp, by simp, by simp, by simp, by simp⟩)
        have N8 := hid (show Nd (w7.alloc (.cells #[.string k.op, .string k.name, .int .i64 (k.kind : Nat), .int .i64 k.n, .int .i64 (k.pl : Nat), .slice sa7 sm7 sc7] 26)) (fun g => q + 1 ≤ g ∧ some g ≠ (Value.slice ma mm mc).ownBlock) (.slice sa7 sm7 sc7) k.kids from NV7.out.keep fun g s l => ⟨⟨by have := QL6.out; omega, fun e => by have := OL.out g e.symm; omega⟩, HS8.out.block g l⟩)
        have ba8 := hid (show q + 1 ≤ (w7.alloc (.cells #[.string k.op, .string k.name, .int .i64 (k.kind : Nat), .int .i64 k.n, .int .i64 (k.pl : Nat), .slice sa7 sm7 sc7] 26)).heap.size from F8.out.nb.lt)
        have m5 := F8.out.nb.c5
        have BB8 := hid (fun x (l : x < w7.heap.size) => HS8.out.block x l)
        clear HS8 NV7
        go_wp2_with fail
        refine hK.out _ _ (⟨(World.cell?_of_block (a := ⟨w.heap.size, 5, none⟩) (BB8.out w.heap.size TK7.out.b1.lt)).trans hHeld.1, hHeld.2.keep (BB8.out g0 (by have := TK7.out.b1.lt; omega))⟩) (fun hX => ?_)
        clear hK K9 hHeld
        have hHeld := hX
        clear hX
        try simp only [Act.put, List.setIfInBounds_toArray, List.set_cons_zero, List.set_cons_succ]
        refine wpAnyH_ready (rs := [9]) (by kernel_rfl) (by simp) ?_
        refine cons2 rfl rfl (fun K9 hK => ?_)
        rw [if_pos (by kernel_rfl)]
        refine wp_addN (.tmp 24) (.tmp 31) rfl (q + 1) (.slice ma mm mc) (t.kids.take j) k (.slice sa7 sm7 sc7) rfl F8.out.ky w7.heap.size rfl C8.out N8.out (by rw [List.length_take]; omega) ba8.out ?_
        intro v9 w9 o9 g9
        obtain ⟨va, vm, vc, rfl, HVM⟩ := o9.sl3
        have a1 := F8.out.o1
        have a2 := F8.out.o2
        have F9 := hid (F8.out.kid g9 o9)
        have k5 := (F8.out.nb.grown g9 (F8.out.off (by omega))).c5
        have kz := (F8.out.nb.grown g9 (F8.out.off (by omega))).fz 5
        have G9 := hid g9
        clear o9 g9
        refine hK.out _ _ (⟨(World.cell?_of_block (a := ⟨w.heap.size, 5, none⟩) (G9.out.block w.heap.size F8.out.b1.lt (F8.out.off (by omega)))).trans hHeld.1, hHeld.2.keep (G9.out.block g0 (by have := F8.out.b1.lt; omega) (F8.out.off (by omega)))⟩) (fun hX => ?_)
        clear hK K9 hHeld
        have hHeld := hX
        clear hX
        try simp only [Act.put, List.setIfInBounds_toArray, List.set_cons_zero, List.set_cons_succ]
        refine take2 rfl (i := 10) (v := (.pointer (some ⟨q, 5, none⟩))) (d := 33) rfl rfl (by kernel_rfl) (by kernel_rfl) (by kernel_rfl) (fun _ _ _ h => h) (Or.inl ⟨by rfl, ?_⟩) hHeld ?_
        · (intro W hW; (try dsimp only at hW); go_simp)
        try simp only [Act.put, List.setIfInBounds_toArray, List.set_cons_zero, List.set_cons_succ]
        refine wpAnyH_ready (rs := [11]) (by kernel_rfl) (by simp) ?_
        refine cons2 rfl rfl (fun K9 hK => ?_)
        go_simp
        refine hK.out _ _ (⟨(cell_ne (by omega)).trans hHeld.1, hHeld.2.keep (Below.heap_setCell _ ⟨q, 5, none⟩ _ g0 (by show g0 ≠ q; omega))⟩) (fun hX => ?_)
        clear hK K9 hHeld
        have hHeld := hX
        clear hX
        try simp only [Act.put, List.setIfInBounds_toArray, List.set_cons_zero, List.set_cons_succ]
        refine wpAnyH_done (by kernel_rfl) ?_ _
        rw [← TKE.out] at F9
        clear hHeld
        go_wp2_with fail
        go_roundg (t.kids.length - (j + 1))
        case measure => omega
        case rel => exact ⟨j + 1, va, vm, vc, by omega, rfl, by rw [Int.natCast_add]; rfl, F9⟩
      · go_simp
        refine Calls.mono (IC.out) ?_
        rintro e w7 ⟨b7, v7, rfl, sl7, rfl, nv7⟩
        obtain ⟨sa7, sm7, sc7, rfl⟩ := nv7.slice
        have NV7 := hid nv7
        have TK7 := hid (TK6.out.next b7)
        have e5 := TK7.out.nb.c5
        have B7 := hid b7
        clear nv7 b7
        go_wp2_with fail
        refine hK.out _ _ (⟨(World.cell?_of_block (a := ⟨w.heap.size, 5, none⟩) (B7.out.block w.heap.size TK6.out.b1.lt)).trans hHeld.1, hHeld.2.keep (B7.out.block g0 (by have := TK6.out.b1.lt; omega))⟩) (fun hX => ?_)
        clear hK K9 hHeld
        have hHeld := hX
        clear hX
        try simp only [Act.put, List.setIfInBounds_toArray, List.set_cons_zero, List.set_cons_succ]
        refine wpAnyH_ready (rs := [1, 8]) (by kernel_rfl) (by simp) ?_
        refine cons22 rfl rfl rfl (fun K9 hK => ?_) (fun K9 hK => ?_)
        · go_simp
          go_wp2_with fail
          refine hK.out _ _ (hHeld) (fun hX => ?_)
          clear hK K9 hHeld
          have hHeld := hX
          clear hX
          try simp only [Act.put, List.setIfInBounds_toArray, List.set_cons_zero, List.set_cons_succ]
          refine wpAnyH_ready (rs := [8]) (by kernel_rfl) (by simp) ?_
          refine cons2 rfl rfl (fun K9 hK => ?_)
          go_simp
          have HS8 := hid (show Below w7.heap.size w7 (w7.alloc (.cells #[.string k.op, .string k.name, .int .i64 (k.kind : Nat), .int .i64 k.n, .int .i64 (k.pl : Nat), .slice sa7 sm7 sc7] 26)) from (Below.refl _ _).alloc (Nat.le_refl _) _)
          have F8 := hid (TK7.out.next HS8.out)
          have C8 := hid (show NC (w7.alloc (.cells #[.string k.op, .string k.name, .int .i64 (k.kind : Nat), .int .i64 k.n, .int .i64 (k.pl : Nat), .slice sa7 sm7 sc7] 26)) w7.heap.size 0 k (.slice sa7 sm7 sc7) from ⟨by simp, by simp, by simp, by simp, by simp, by simp⟩)
          have N8 := hid (show Nd (w7.alloc (.cells #[.string k.op, .string k.name, .int .i64 (k.kind : Nat), .int .i64 k.n, .int .i64 (k.pl : Nat), .slice sa7 sm7 sc7] 26)) (fun g => q + 1 ≤ g ∧ some g ≠ (Value.slice ma mm mc).ownBlock) (.slice sa7 sm7 sc7) k.kids from NV7.out.keep fun g s l => ⟨⟨by have := QL6.out; omega, fun e => by have := OL.out g e.symm; omega⟩, HS8.out.block g l⟩)
          have ba8 := hid (show q + 1 ≤ (w7.alloc (.cells #[.string k.op, .string k.name, .int .i64 (k.kind : Nat), .int .i64 k.n, .int .i64 (k.pl : Nat), .slice sa7 sm7 sc7] 26)).heap.size from F8.out.nb.lt)
          have m5 := F8.out.nb.c5
          have BB8 := hid (fun x (l : x < w7.heap.size) => HS8.out.block x l)
          clear HS8 NV7
          go_wp2_with fail
          refine hK.out _ _ (⟨(World.cell?_of_block (a := ⟨w.heap.size, 5, none⟩) (BB8.out w.heap.size TK7.out.b1.lt)).trans hHeld.1, hHeld.2.keep (BB8.out g0 (by have := TK7.out.b1.lt; omega))⟩) (fun hX => ?_)
          clear hK K9 hHeld
          have hHeld := hX
          clear hX
          try simp only [Act.put, List.setIfInBounds_toArray, List.set_cons_zero, List.set_cons_succ]
          refine wpAnyH_ready (rs := [9]) (by kernel_rfl) (by simp) ?_
          refine cons2 rfl rfl (fun K9 hK => ?_)
          rw [if_pos (by kernel_rfl)]
          refine wp_addN (.tmp 24) (.tmp 31) rfl (q + 1) (.slice ma mm mc) (t.kids.take j) k (.slice sa7 sm7 sc7) rfl F8.out.ky w7.heap.size rfl C8.out N8.out (by rw [List.length_take]; omega) ba8.out ?_
          intro v9 w9 o9 g9
          obtain ⟨va, vm, vc, rfl, HVM⟩ := o9.sl3
          have a1 := F8.out.o1
          have a2 := F8.out.o2
          have F9 := hid (F8.out.kid g9 o9)
          have k5 := (F8.out.nb.grown g9 (F8.out.off (by omega))).c5
          have kz := (F8.out.nb.grown g9 (F8.out.off (by omega))).fz 5
          have G9 := hid g9
          clear o9 g9
          refine hK.out _ _ (⟨(World.cell?_of_block (a := ⟨w.heap.size, 5, none⟩) (G9.out.block w.heap.size F8.out.b1.lt (F8.out.off (by omega)))).trans hHeld.1, hHeld.2.keep (G9.out.block g0 (by have := F8.out.b1.lt; omega) (F8.out.off (by omega)))⟩) (fun hX => ?_)
          clear hK K9 hHeld
          have hHeld := hX
          clear hX
          try simp only [Act.put, List.setIfInBounds_toArray, List.set_cons_zero, List.set_cons_succ]
          refine take2 rfl (i := 10) (v := (.pointer (some ⟨q, 5, none⟩))) (d := 33) rfl rfl (by kernel_rfl) (by kernel_rfl) (by kernel_rfl) (fun _ _ _ h => h) (Or.inl ⟨by rfl, ?_⟩) hHeld ?_
          · (intro W hW; (try dsimp only at hW); go_simp)
          try simp only [Act.put, List.setIfInBounds_toArray, List.set_cons_zero, List.set_cons_succ]
          refine wpAnyH_ready (rs := [11]) (by kernel_rfl) (by simp) ?_
          refine cons2 rfl rfl (fun K9 hK => ?_)
          go_simp
          refine hK.out _ _ (⟨(cell_ne (by omega)).trans hHeld.1, hHeld.2.keep (Below.heap_setCell _ ⟨q, 5, none⟩ _ g0 (by show g0 ≠ q; omega))⟩) (fun hX => ?_)
          clear hK K9 hHeld
          have hHeld := hX
          clear hX
          try simp only [Act.put, List.setIfInBounds_toArray, List.set_cons_zero, List.set_cons_succ]
          refine wpAnyH_done (by kernel_rfl) ?_ _
          rw [← TKE.out] at F9
          clear hHeld
          go_wp2_with fail
          go_roundg (t.kids.length - (j + 1))
          case measure => omega
          case rel => exact ⟨j + 1, va, vm, vc, by omega, rfl, by rw [Int.natCast_add]; rfl, F9⟩
        · go_simp
          have HS8 := hid (show Below w7.heap.size w7 (w7.alloc (.cells #[.string k.op, .string k.name, .int .i64 (k.kind : Nat), .int .i64 k.n, .int .i64 (k.pl : Nat), .slice sa7 sm7 sc7] 26)) from (Below.refl _ _).alloc (Nat.le_refl _) _)
          have F8 := hid (TK7.out.next HS8.out)
          have C8 := hid (show NC (w7.alloc (.cells #[.string k.op, .string k.name, .int .i64 (k.kind : Nat), .int .i64 k.n, .int .i64 (k.pl : Nat), .slice sa7 sm7 sc7] 26)) w7.heap.size 0 k (.slice sa7 sm7 sc7) from ⟨by simp, by simp, by simp, by simp, by simp, by simp⟩)
          have N8 := hid (show Nd (w7.alloc (.cells #[.string k.op, .string k.name, .int .i64 (k.kind : Nat), .int .i64 k.n, .int .i64 (k.pl : Nat), .slice sa7 sm7 sc7] 26)) (fun g => q + 1 ≤ g ∧ some g ≠ (Value.slice ma mm mc).ownBlock) (.slice sa7 sm7 sc7) k.kids from NV7.out.keep fun g s l => ⟨⟨by have := QL6.out; omega, fun e => by have := OL.out g e.symm; omega⟩, HS8.out.block g l⟩)
          have ba8 := hid (show q + 1 ≤ (w7.alloc (.cells #[.string k.op, .string k.name, .int .i64 (k.kind : Nat), .int .i64 k.n, .int .i64 (k.pl : Nat), .slice sa7 sm7 sc7] 26)).heap.size from F8.out.nb.lt)
          have m5 := F8.out.nb.c5
          have BB8 := hid (fun x (l : x < w7.heap.size) => HS8.out.block x l)
          clear HS8 NV7
          go_wp2_with fail
          refine hK.out _ _ (⟨(World.cell?_of_block (a := ⟨w.heap.size, 5, none⟩) (BB8.out w.heap.size TK7.out.b1.lt)).trans hHeld.1, hHeld.2.keep (BB8.out g0 (by have := TK7.out.b1.lt; omega))⟩) (fun hX => ?_)
          clear hK K9 hHeld
          have hHeld := hX
          clear hX
          try simp only [Act.put, List.setIfInBounds_toArray, List.set_cons_zero, List.set_cons_succ]
          refine wpAnyH_ready (rs := [1]) (by kernel_rfl) (by simp) ?_
          refine cons2 rfl rfl (fun K9 hK => ?_)
          go_simp
          go_wp2_with fail
          refine hK.out _ _ (hHeld) (fun hX => ?_)
          clear hK K9 hHeld
          have hHeld := hX
          clear hX
          try simp only [Act.put, List.setIfInBounds_toArray, List.set_cons_zero, List.set_cons_succ]
          refine wpAnyH_ready (rs := [9]) (by kernel_rfl) (by simp) ?_
          refine cons2 rfl rfl (fun K9 hK => ?_)
          rw [if_pos (by kernel_rfl)]
          refine wp_addN (.tmp 24) (.tmp 31) rfl (q + 1) (.slice ma mm mc) (t.kids.take j) k (.slice sa7 sm7 sc7) rfl F8.out.ky w7.heap.size rfl C8.out N8.out (by rw [List.length_take]; omega) ba8.out ?_
          intro v9 w9 o9 g9
          obtain ⟨va, vm, vc, rfl, HVM⟩ := o9.sl3
          have a1 := F8.out.o1
          have a2 := F8.out.o2
          have F9 := hid (F8.out.kid g9 o9)
          have k5 := (F8.out.nb.grown g9 (F8.out.off (by omega))).c5
          have kz := (F8.out.nb.grown g9 (F8.out.off (by omega))).fz 5
          have G9 := hid g9
          clear o9 g9
          refine hK.out _ _ (⟨(World.cell?_of_block (a := ⟨w.heap.size, 5, none⟩) (G9.out.block w.heap.size F8.out.b1.lt (F8.out.off (by omega)))).trans hHeld.1, hHeld.2.keep (G9.out.block g0 (by have := F8.out.b1.lt; omega) (F8.out.off (by omega)))⟩) (fun hX => ?_)
          clear hK K9 hHeld
          have hHeld := hX
          clear hX
          try simp only [Act.put, List.setIfInBounds_toArray, List.set_cons_zero, List.set_cons_succ]
          refine take2 rfl (i := 10) (v := (.pointer (some ⟨q, 5, none⟩))) (d := 33) rfl rfl (by kernel_rfl) (by kernel_rfl) (by kernel_rfl) (fun _ _ _ h => h) (Or.inl ⟨by rfl, ?_⟩) hHeld ?_
          · (intro W hW; (try dsimp only at hW); go_simp)
          try simp only [Act.put, List.setIfInBounds_toArray, List.set_cons_zero, List.set_cons_succ]
          refine wpAnyH_ready (rs := [11]) (by kernel_rfl) (by simp) ?_
          refine cons2 rfl rfl (fun K9 hK => ?_)
          go_simp
          refine hK.out _ _ (⟨(cell_ne (by omega)).trans hHeld.1, hHeld.2.keep (Below.heap_setCell _ ⟨q, 5, none⟩ _ g0 (by show g0 ≠ q; omega))⟩) (fun hX => ?_)
          clear hK K9 hHeld
          have hHeld := hX
          clear hX
          try simp only [Act.put, List.setIfInBounds_toArray, List.set_cons_zero, List.set_cons_succ]
          refine wpAnyH_done (by kernel_rfl) ?_ _
          rw [← TKE.out] at F9
          clear hHeld
          go_wp2_with fail
          go_roundg (t.kids.length - (j + 1))
          case measure => omega
          case rel => exact ⟨j + 1, va, vm, vc, by omega, rfl, by rw [Int.natCast_add]; rfl, F9⟩
    · have hj' : ¬ (j : Int) < (t.kids.length : Int) := by omega
      obtain rfl : j = t.kids.length := by omega
      have TKE := hid (List.take_length (l := t.kids))
      rw [TKE.out] at TK
      have a1 := TK.out.o1
      have a2 := TK.out.o2
      go_upto_region 6 with fail
      obtain ⟨h0, h1, h2, h3, h4, h5, hz⟩ := TK.out.hb
      obtain ⟨v0, v1, v2, v3, v4, v5, vz⟩ := TK.out.nb
      have BF := hid (TK.out.hb.sets (.string t.op) (.string t.name) (.int .i64 (t.kind : Nat)) (.int .i64 t.n) (.int .i64 (t.pl : Nat)) (.slice ma mm mc))
      have BL := hid (Below.put6X TK.out.bl (q := r) (by omega) (.string t.op) (.string t.name) (.int .i64 (t.kind : Nat)) (.int .i64 t.n) (.int .i64 (t.pl : Nat)) (.slice ma mm mc))
      have NF := hid (Nd.put6x (q := r) (m := w.heap.size) TK.out.ky.nd (by omega) (by omega) (.string t.op) (.string t.name) (.int .i64 (t.kind : Nat)) (.int .i64 t.n) (.int .i64 (t.pl : Nat)) (.slice ma mm mc))
      go_wp2_with fail
      generalize World.setCell _ ⟨r, 5, none⟩ _ = wf at *
      obtain ⟨q0, q1, q2, q3, q4, q5, _⟩ := BF.out
      exact bodyPost_ret (v := .agg #[.string t.op, .string t.name, .int .i64 (t.kind : Nat), .int .i64 t.n, .int .i64 (t.pl : Nat), .slice ma mm mc]) (by simp [results, Tryz.results20, go_sem, q0, q1, q2, q3, q4, q5]) rfl ⟨BL.out, _, rfl, _, rfl, NF.out⟩
theorem back_any {t : Tr} (h : Sz t) : ∀ (w : World) (v : Value), Nv w (fun _ => True) v t → Calls Tryz.prog 20 #[v] w fun e w' => BkP t w e w' := by
  induction h with
  | mk t hl _ ih => exact fun w v n => back_step t hl ih w v n
end Go.Proofs.YtiikdmnmfmfpdaaGreatDoor

namespace Go.Proofs.YtiikdmnmfmfpdaaGreatDoor
open Go.RowKit
set_option linter.unusedVariables false
set_option linter.unusedSimpArgs false

theorem sz_leaf {t : Tr} (h : t.kids = []) : Sz t := .mk t (by rw [h]; simp) (fun k hk => by rw [h] at hk; simp at hk)
theorem sz_zero : Sz Tr.zero := sz_leaf rfl
theorem sz_kids {t : Tr} (l : List Tr) (h : t.kids = l) (hl : l.length ≤ 10000) (hk : ∀ k, k ∈ l → Sz k) : Sz t := .mk t (by rw [h]; exact hl) (fun k q => hk k (by rw [← h]; exact q))
theorem sz_lit (s : Sp) : Sz s.lit.1 := by
  unfold Sp.lit
  split
  · show Sz (litV s.l)
    unfold litV lit1
    split <;> (try split) <;> (try split) <;> (try split) <;> exact sz_leaf rfl
  · exact sz_zero
def Gs (A : Ax) : Prop := ∀ s, Sz (A s).1
theorem sz_two {op : ByteArray} {a : Nat} {x y : Tr} (h1 : Sz x) (h2 : Sz y) : Sz (two op a x y) := sz_kids [x, y] rfl (by simp) (fun k hk => by simp at hk; rcases hk with rfl | rfl <;> assumption)
theorem sz_one {op n : ByteArray} {a : Nat} {x : Tr} (h1 : Sz x) : Sz (one op n a x) := sz_kids [x] rfl (by simp) (fun k hk => by simp at hk; subst hk; exact h1)
theorem gs_loop {B : Ax} (hB : Gs B) (lv : Nat) : ∀ f t s, Sz t → Sz (loopX B lv f t s).1
  | 0, t, s, h => h
  | f + 1, t, s, h => by
    unfold loopX
    split
    · split
      · exact sz_two h (hB _)
      · exact gs_loop hB lv f _ _ (sz_two h (hB _))
    · exact h
theorem gs_row {U : Ax} (hU : Gs U) : ∀ m, Gs (rowR U m)
  | 0 => hU
  | m + 1 => fun s => by
    unfold rowR
    exact gs_loop (gs_row hU m) _ _ _ _ (gs_row hU m s)
theorem gs_prim {E : Ax} (hE : Gs E) : Gs (primR E) := fun s => by
  unfold primR
  split
  · exact sz_lit s
  split
  · exact sz_two (hE _) (hE _)
  split
  · exact sz_two (hE _) (hE _)
  split
  · exact hE _
  split
  · exact sz_one (hE _)
  split
  · exact sz_one (hE _)
  split
  · unfold sumR; exact sz_kids [_, _] rfl (by simp) (fun k hk => by simp at hk; rcases hk with rfl | rfl <;> exact hE _)
  · exact sz_leaf rfl
theorem gs_un {U : Option Ax} {E : Ax} (hU : ∀ V, U = some V → Gs V) (hE : Gs E) : Gs (unR U E) := fun s => by
  have t1 : ∀ op, Sz (trnR U op s).1 := fun op => by
    unfold trnR
    cases U with
    | none => exact sz_zero
    | some V => exact sz_one (hU V rfl _)
  unfold unR
  split
  · exact t1 _
  split
  · exact t1 _
  · exact gs_prim hE s
theorem gs_ins {U E : Ax} (hU : Gs U) (hE : Gs E) : Gs (insR U E) := fun s => by
  unfold insR
  split
  · unfold ifR; exact sz_kids [_, _, _] rfl (by simp) (fun k hk => by simp at hk; rcases hk with rfl | rfl | rfl <;> exact hE _)
  · exact gs_row hU 5 s
theorem gs_ex {R : Option (Ax × Ax)} (h : ∀ V, R = some V → Gs V.1 ∧ Gs V.2) : Gs (exR R) := fun s => by
  unfold exR
  split
  · cases R with
    | none => exact sz_zero
    | some V => exact gs_ins (h V rfl).1 (h V rfl).2 s
  · exact sz_zero
theorem gs_rec : ∀ n, Gs (recR n).1 ∧ Gs (recR n).2
  | 0 => by
    have e : Gs (exR none) := gs_ex (fun V h => by cases h)
    exact ⟨gs_un (fun V h => by cases h) e, e⟩
  | n + 1 => by
    obtain ⟨h1, h2⟩ := gs_rec n
    have e : Gs (exR (some (recR n))) := gs_ex (fun V h => by injection h with h; subst h; exact ⟨h1, h2⟩)
    exact ⟨gs_un (fun V h => by injection h with h; subst h; exact h1) e, e⟩
theorem gs_rows : ∀ f ks s, (∀ k, k ∈ ks → Sz k) → (∀ k, k ∈ (rowsX f ks s).1 → Sz k) ∧ (rowsX f ks s).1.length ≤ ks.length + f
  | 0, ks, s, h => ⟨h, by simp [rowsX]⟩
  | f + 1, ks, s, h => by
    unfold rowsX
    split
    · split
      · exact ⟨h, by simp⟩
      · obtain ⟨a1, a2⟩ := gs_rows f (ks ++ [rowT (aw s.l) [s.lit.1, (Sp.lit (s.lit.2.want sColon)).1]]) ((Sp.lit (s.lit.2.want sColon)).2.want sComma) (fun k hk => by
          rcases List.mem_append.1 hk with q | q
          · exact h k q
          · simp at q; subst q; exact sz_kids [_, _] rfl (by simp) (fun k hk => by simp at hk; rcases hk with rfl | rfl <;> exact sz_lit _))
        exact ⟨a1, by rw [List.length_append] at a2; simp at a2; show (rowsX f _ _).1.length ≤ _; omega⟩
    · exact ⟨h, by simp⟩
theorem gs_decl {E : Ax} (hE : Gs E) : Gs (declX E) := fun s => by
  unfold declX
  split
  · exact sz_leaf rfl
  split
  · exact sz_kids [_] rfl (by simp) (fun k hk => by simp at hk; subst hk; exact hE _)
  split
  · obtain ⟨a1, a2⟩ := gs_rows 33 [] (s.nx.nm.2.kd.2.kd.2.want sBrace) (fun k hk => by simp at hk)
    refine sz_kids _ rfl ?_ ?_
    · show ((rowsX 33 [] (s.nx.nm.2.kd.2.kd.2.want sBrace)).1 ++ [_]).length ≤ _
      rw [List.length_append]; simp at a2 ⊢; omega
    · intro k hk
      have hk : k ∈ (rowsX 33 [] (s.nx.nm.2.kd.2.kd.2.want sBrace)).1 ++ [_] := hk
      rcases List.mem_append.1 hk with q | q
      · exact a1 k q
      · simp at q; subst q; exact sz_kids [_] rfl (by simp) (fun k hk => by simp at hk; subst hk; exact sz_lit _)
  · exact sz_leaf rfl
theorem gs_decls {E : Ax} (hE : Gs E) : ∀ f ks s, (∀ k, k ∈ ks → Sz k) → (∀ k, k ∈ (declsX E f ks s).1 → Sz k) ∧ (declsX E f ks s).1.length ≤ ks.length + f
  | 0, ks, s, h => ⟨h, by simp [declsX]⟩
  | f + 1, ks, s, h => by
    unfold declsX
    split
    · obtain ⟨a1, a2⟩ := gs_decls hE f (ks ++ [(declX E s).1]) (declX E s).2 (fun k hk => by
          rcases List.mem_append.1 hk with q | q
          · exact h k q
          · simp at q; subst q; exact gs_decl hE s)
      exact ⟨a1, by rw [List.length_append] at a2; simp at a2; omega⟩
    · exact ⟨h, by simp⟩
theorem sz_parse {t : ByteArray} {T : Tr} (hs : t.size ≤ 3000) (h : parseX t = .inl T) : Sz T := by
  unfold parseX at h
  cases hc : cutF t 0 with
  | mk R o =>
    rw [hc] at h
    cases o with
    | some b => simp at h
    | none =>
      have ln := (cut_finX t _ 0 R (Nat.le_refl _) (Nat.zero_le _) hc).1
      simp only at h
      unfold parX at h
      obtain ⟨a1, a2⟩ := gs_decls (gs_rec 40).2 (R.map (wo t)).length [] ⟨R.map (wo t), none, false⟩ (fun k hk => by simp at hk)
      simp only at h
      split at h
      · injection h with h
        subst h
        exact sz_kids _ rfl (Nat.le_trans a2 (by rw [List.length_map, List.length_nil]; omega)) a1
      · cases h
/-- The tree of a text; none has an empty one. -/
def trX (t : ByteArray) : Tr := match parseX t with | .inl T => T | .inr _ => Tr.zero
def okX (t : ByteArray) : Bool := match parseX t with | .inl _ => true | .inr _ => false
theorem sz_tr {t : ByteArray} (hs : t.size ≤ 3000) : Sz (trX t) := by
  unfold trX
  cases h : parseX t with
  | inl T => exact sz_parse hs h
  | inr x => exact sz_zero
theorem parse_uni {t : ByteArray} {w w' : World} {e : Ending} (h : PsP t w e w') : Below w.heap.size w w' ∧ ∃ (bd : Int) (d : Bool) (sa : Option Addr) (sm sc : Nat), e = .returned (.tuple #[.agg #[.string (trX t).op, .string (trX t).name, .int .i64 ((trX t).kind : Nat), .int .i64 (trX t).n, .int .i64 ((trX t).pl : Nat), .slice sa sm sc], .int .i64 bd, .bool d]) ∧ Nd w' (fun g => w.heap.size ≤ g) (.slice sa sm sc) (trX t).kids ∧ decide (bd < 0) = okX t := by
  unfold PsP at h
  unfold trX okX
  obtain ⟨b, h⟩ := h
  refine ⟨b, ?_⟩
  cases hp : parseX t with
  | inl T =>
    rw [hp] at h
    obtain ⟨v, rfl, sl, rfl, n⟩ := h
    obtain ⟨sa, sm, sc, rfl⟩ := n.slice
    exact ⟨-1, false, sa, sm, sc, rfl, n, rfl⟩
  | inr x =>
    obtain ⟨a, d⟩ := x
    rw [hp] at h
    have h : e = _ := h
    subst h
    exact ⟨(a : Nat), d, none, 0, 0, rfl, .nil, decide_eq_false (by omega)⟩
/-- What Read leaves. -/
def RdX (t : ByteArray) (w : World) (e : Ending) (w' : World) : Prop := Below w.heap.size w w' ∧ ∃ (sa sb : Option Addr) (sm sc sn sd : Nat), e = .returned (.tuple #[.agg #[.string (trX t).op, .string (trX t).name, .int .i64 ((trX t).kind : Nat), .int .i64 (trX t).n, .int .i64 ((trX t).pl : Nat), .slice sa sm sc], .agg #[.string (trX t).op, .string (trX t).name, .int .i64 ((trX t).kind : Nat), .int .i64 (trX t).n, .int .i64 ((trX t).pl : Nat), .slice sb sn sd], .bool (okX t)]) ∧ Nd w' (fun g => w.heap.size ≤ g) (.slice sa sm sc) (trX t).kids ∧ Nd w' (fun g => w.heap.size ≤ g) (.slice sb sn sd) (trX t).kids
set_option maxRecDepth 100000 in
set_option maxHeartbeats 4000000 in
theorem read_any (t : ByteArray) (w : World) (hs : t.size ≤ 3000) : Calls Tryz.prog 11 #[.string t] w fun e w' => RdX t w e w' := by
  have PC := hid (fun w => (rparse_any t w hs).mono fun e w' h => parse_uni h)
  have SZ := hid (sz_tr hs)
  unfold RdX
  obtain ⟨T, hT⟩ : ∃ T, trX t = T := ⟨_, rfl⟩
  obtain ⟨ok, hok⟩ : ∃ ok, okX t = ok := ⟨_, rfl⟩
  rw [hT] at PC SZ ⊢
  rw [hok] at PC ⊢
  clear hT hok
  have A2 := hid (show Below w.heap.size w ((w.alloc (.cells #[.string ⟨#[]⟩, .string ⟨#[]⟩, .int .i64 0, .int .i64 0, .int .i64 0, .slice none 0 0] 26)).alloc (.cells #[.string ⟨#[]⟩, .string ⟨#[]⟩, .int .i64 0, .int .i64 0, .int .i64 0, .slice none 0 0] 32)) from ((Below.refl _ _).alloc (Nat.le_refl _) _).alloc (by simp) _)
  have H1 := hid (show B6 ((w.alloc (.cells #[.string ⟨#[]⟩, .string ⟨#[]⟩, .int .i64 0, .int .i64 0, .int .i64 0, .slice none 0 0] 26)).alloc (.cells #[.string ⟨#[]⟩, .string ⟨#[]⟩, .int .i64 0, .int .i64 0, .int .i64 0, .slice none 0 0] 32)) w.heap.size (.string ⟨#[]⟩) (.string ⟨#[]⟩) (.int .i64 0) (.int .i64 0) (.int .i64 0) (.slice none 0 0) from (B6.new w 26 _ _ _ _ _ _).next ((Below.refl _ _).alloc (Nat.le_refl _) _))
  have H2 := hid (show B6 ((w.alloc (.cells #[.string ⟨#[]⟩, .string ⟨#[]⟩, .int .i64 0, .int .i64 0, .int .i64 0, .slice none 0 0] 26)).alloc (.cells #[.string ⟨#[]⟩, .string ⟨#[]⟩, .int .i64 0, .int .i64 0, .int .i64 0, .slice none 0 0] 32)) (w.heap.size + 1) (.string ⟨#[]⟩) (.string ⟨#[]⟩) (.int .i64 0) (.int .i64 0) (.int .i64 0) (.slice none 0 0) from by have := B6.new (w.alloc (.cells #[.string ⟨#[]⟩, .string ⟨#[]⟩, .int .i64 0, .int .i64 0, .int .i64 0, .slice none 0 0] 26)) 32 (.string ⟨#[]⟩) (.string ⟨#[]⟩) (.int .i64 0) (.int .i64 0) (.int .i64 0) (.slice none 0 0); rw [show (w.alloc (.cells #[.string ⟨#[]⟩, .string ⟨#[]⟩, .int .i64 0, .int .i64 0, .int .i64 0, .slice none 0 0] 26)).heap.size = w.heap.size + 1 by simp] at this; exact this)
  go_enter Tryz.func11, Tryz.ntmps11
  go_upto_region 1 with fail
  generalize World.alloc (World.alloc w _) _ = w1 at *
  have r2 : w.heap.size < w.heap.size + 1 := by omega
  generalize w.heap.size + 1 = q at *
  have C1 := hid (PC.out w1)
  go_upto_region 2 with (go_at_call 8; with_reducible refine Calls.mono C1.out ?_; rintro e w2 ⟨b2, bd, d, sa, sm, sc, rfl, nd2, hb⟩; have W1 := hid (Nat.lt_of_lt_of_le H2.out.lt b2.size); have QL := hid H2.out.lt; replace A2 := hid (nextB A2.out b2); replace H1 := hid (H1.out.next b2); replace H2 := hid (H2.out.next b2); have ND := hid nd2; have OK := hid hb; clear b2 nd2 hb C1)
  have AL := hid (show Below w2.heap.size w2 (w2.alloc (.cells #[.string T.op, .string T.name, .int .i64 (T.kind : Nat), .int .i64 T.n, .int .i64 (T.pl : Nat), .slice sa sm sc] 32)) from (Below.refl _ _).alloc (Nat.le_refl _) _)
  have BB := hid (B6.new w2 32 (.string T.op) (.string T.name) (.int .i64 (T.kind : Nat)) (.int .i64 T.n) (.int .i64 (T.pl : Nat)) (.slice sa sm sc))
  replace A2 := hid (nextB A2.out AL.out)
  replace H1 := hid (H1.out.next AL.out)
  replace H2 := hid (H2.out.next AL.out)
  have ND3 := hid ((ND.out.next AL.out).weak (m := q + 1) QL.out)
  have gq : q < w2.heap.size := W1.out
  clear AL ND W1 QL
  generalize World.alloc w2 _ = w3 at *
  generalize w2.heap.size = g at *
  have gr : g ≠ w.heap.size := by omega
  have gq' : g ≠ q := by omega
  have BC := hid (back_any SZ.out w3.drew (.agg #[.string T.op, .string T.name, .int .i64 (T.kind : Nat), .int .i64 T.n, .int .i64 (T.pl : Nat), .slice sa sm sc]) ⟨_, rfl, ND3.out.keep fun g s l => ⟨trivial, rfl⟩⟩)
  replace A2 := hid (nextB A2.out (Below.refl _ _).drew)
  replace H1 := hid (H1.out.next (Below.refl _ _).drew)
  replace H2 := hid (H2.out.next (Below.refl _ _).drew)
  replace ND3 := hid (ND3.out.next (Below.refl _ _).drew)
  replace BB := hid (BB.out.next (Below.refl _ _).drew)
  refine wp_region_held_drew (S := (fun W => B6 W g (.string T.op) (.string T.name) (.int .i64 (T.kind : Nat)) (.int .i64 T.n) (.int .i64 (T.pl : Nat)) (.slice sa sm sc))) (by kernel_rfl) BB.out (fun hHeld => ?_)
  generalize w3.drew = w4 at *
  refine take2 rfl (i := 0) (v := (.agg #[.string T.op, .string T.name, .int .i64 (T.kind : Nat), .int .i64 T.n, .int .i64 (T.pl : Nat), .slice sa sm sc])) (d := 14) rfl rfl (by kernel_rfl) (by kernel_rfl) (by kernel_rfl) (fun _ _ _ h => h) (Or.inl ⟨by rfl, ?_⟩) hHeld ?_
  · (intro W hW; (try dsimp only at hW); obtain ⟨hW0, hW1, hW2, hW3, hW4, hW5, hW6⟩ := hW; go_simp)
  try simp only [Act.put, List.setIfInBounds_toArray, List.set_cons_zero, List.set_cons_succ]
  refine take2 rfl (i := 2) (v := (.agg #[.string T.op, .string T.name, .int .i64 (T.kind : Nat), .int .i64 T.n, .int .i64 (T.pl : Nat), .slice sa sm sc])) (d := 16) rfl rfl (by kernel_rfl) (by kernel_rfl) (by kernel_rfl) (fun _ _ _ h => h) (Or.inl ⟨by rfl, ?_⟩) hHeld ?_
  · (intro W hW; (try dsimp only at hW); obtain ⟨hW0, hW1, hW2, hW3, hW4, hW5, hW6⟩ := hW; go_simp)
  try simp only [Act.put, List.setIfInBounds_toArray, List.set_cons_zero, List.set_cons_succ]
  refine take2 rfl (i := 3) (v := (.int .i64 bd)) (d := 17) rfl rfl (by kernel_rfl) (by kernel_rfl) (by kernel_rfl) (fun _ _ _ h => h) (Or.inl ⟨by rfl, ?_⟩) hHeld ?_
  · (intro W hW; (try dsimp only at hW); go_simp)
  try simp only [Act.put, List.setIfInBounds_toArray, List.set_cons_zero, List.set_cons_succ]
  refine take2 rfl (i := 4) (v := (.bool (decide (bd < 0)))) (d := 18) rfl rfl (by kernel_rfl) (by kernel_rfl) (by kernel_rfl) (fun _ _ _ h => h) (Or.inl ⟨by rfl, ?_⟩) hHeld ?_
  · (intro W hW; (try dsimp only at hW); go_simp)
  try simp only [Act.put, List.setIfInBounds_toArray, List.set_cons_zero, List.set_cons_succ]
  refine wpAnyH_ready (rs := [1]) (by kernel_rfl) (by simp) ?_
  refine cons2 rfl rfl (fun K9 hK => ?_)
  go_simp
  refine Calls.mono (BC.out) ?_
  rintro e w7 ⟨b7, v7, rfl, sl7, rfl, nv7⟩
  obtain ⟨ta, tm, tc, rfl⟩ := nv7.slice
  have QL4 := hid H2.out.lt
  have NV7 := hid (nv7.weak (m := q + 1) QL4.out)
  replace A2 := hid (nextB A2.out b7)
  replace H1 := hid (H1.out.next b7)
  replace H2 := hid (H2.out.next b7)
  replace ND3 := hid (ND3.out.next b7)
  replace BB := hid (BB.out.next b7)
  clear nv7 b7 QL4
  go_wp2_with fail
  refine hK.out _ _ (BB.out) (fun hX => ?_)
  clear hK K9 hHeld
  have hHeld := hX
  clear hX
  try simp only [Act.put, List.setIfInBounds_toArray, List.set_cons_zero, List.set_cons_succ]
  obtain ⟨h0, h1, h2, h3, h4, h5, hz⟩ := H1.out
  refine wpAnyH_ready (rs := [5]) (by kernel_rfl) (by simp) ?_
  refine cons2 rfl rfl (fun K9 hK => ?_)
  go_simp
  have K1 := hid (H1.out.sets (.string T.op) (.string T.name) (.int .i64 (T.kind : Nat)) (.int .i64 T.n) (.int .i64 (T.pl : Nat)) (.slice ta tm tc))
  have K2 := hid (H2.out.put6 (q := w.heap.size) (by omega) (.string T.op) (.string T.name) (.int .i64 (T.kind : Nat)) (.int .i64 T.n) (.int .i64 (T.pl : Nat)) (.slice ta tm tc))
  have KB := hid (BB.out.put6 (q := w.heap.size) gr (.string T.op) (.string T.name) (.int .i64 (T.kind : Nat)) (.int .i64 T.n) (.int .i64 (T.pl : Nat)) (.slice ta tm tc))
  have KA := hid (Below.put6X A2.out (q := w.heap.size) (Nat.le_refl _) (.string T.op) (.string T.name) (.int .i64 (T.kind : Nat)) (.int .i64 T.n) (.int .i64 (T.pl : Nat)) (.slice ta tm tc))
  have KN := hid (Nd.put6x (q := w.heap.size) (m := q + 1) NV7.out (by omega) (Nat.le_refl _) (.string T.op) (.string T.name) (.int .i64 (T.kind : Nat)) (.int .i64 T.n) (.int .i64 (T.pl : Nat)) (.slice ta tm tc))
  have KD := hid (Nd.put6x (q := w.heap.size) (m := q + 1) ND3.out (by omega) (Nat.le_refl _) (.string T.op) (.string T.name) (.int .i64 (T.kind : Nat)) (.int .i64 T.n) (.int .i64 (T.pl : Nat)) (.slice ta tm tc))
  clear H1 H2 BB A2 NV7 ND3 h0 h1 h2 h3 h4 h5 hz
  generalize World.setCell _ ⟨w.heap.size, 5, none⟩ _ = w8 at *
  refine hK.out _ _ (KB.out) (fun hX => ?_)
  clear hK K9 hHeld
  have hHeld := hX
  clear hX
  try simp only [Act.put, List.setIfInBounds_toArray, List.set_cons_zero, List.set_cons_succ]
  obtain ⟨h0, h1, h2, h3, h4, h5, hz⟩ := K2.out
  refine wpAnyH_ready (rs := [6]) (by kernel_rfl) (by simp) ?_
  refine cons2 rfl rfl (fun K9 hK => ?_)
  go_simp
  have J1 := hid (K1.out.put6 (q := q) (by omega) (.string T.op) (.string T.name) (.int .i64 (T.kind : Nat)) (.int .i64 T.n) (.int .i64 (T.pl : Nat)) (.slice sa sm sc))
  have J2 := hid (K2.out.sets (.string T.op) (.string T.name) (.int .i64 (T.kind : Nat)) (.int .i64 T.n) (.int .i64 (T.pl : Nat)) (.slice sa sm sc))
  have JB := hid (KB.out.put6 (q := q) gq' (.string T.op) (.string T.name) (.int .i64 (T.kind : Nat)) (.int .i64 T.n) (.int .i64 (T.pl : Nat)) (.slice sa sm sc))
  have JA := hid (Below.put6X KA.out (q := q) (by omega) (.string T.op) (.string T.name) (.int .i64 (T.kind : Nat)) (.int .i64 T.n) (.int .i64 (T.pl : Nat)) (.slice sa sm sc))
  have JN := hid (Nd.put6x (q := q) (m := w.heap.size) KN.out (by omega) (by omega) (.string T.op) (.string T.name) (.int .i64 (T.kind : Nat)) (.int .i64 T.n) (.int .i64 (T.pl : Nat)) (.slice sa sm sc))
  have JD := hid (Nd.put6x (q := q) (m := w.heap.size) KD.out (by omega) (by omega) (.string T.op) (.string T.name) (.int .i64 (T.kind : Nat)) (.int .i64 T.n) (.int .i64 (T.pl : Nat)) (.slice sa sm sc))
  clear K1 K2 KB KA KN KD h0 h1 h2 h3 h4 h5 hz
  generalize World.setCell _ ⟨q, 5, none⟩ _ = w9 at *
  refine hK.out _ _ (JB.out) (fun hX => ?_)
  clear hK K9 hHeld
  have hHeld := hX
  clear hX
  try simp only [Act.put, List.setIfInBounds_toArray, List.set_cons_zero, List.set_cons_succ]
  refine take2 rfl (i := 7) (v := (.bool (decide (bd < 0)))) (d := 4) rfl rfl (by kernel_rfl) (by kernel_rfl) (by kernel_rfl) (fun _ _ _ h => h) (Or.inl ⟨by rfl, ?_⟩) hHeld ?_
  · (intro W hW; (try dsimp only at hW); go_simp)
  try simp only [Act.put, List.setIfInBounds_toArray, List.set_cons_zero, List.set_cons_succ]
  refine wpAnyH_done (by kernel_rfl) ?_ _
  go_wp2_with fail
  obtain ⟨q0, q1, q2, q3, q4, q5, _⟩ := J1.out
  obtain ⟨y0, y1, y2, y3, y4, y5, _⟩ := J2.out
  exact bodyPost_ret (v := .tuple #[.agg #[.string T.op, .string T.name, .int .i64 (T.kind : Nat), .int .i64 T.n, .int .i64 (T.pl : Nat), .slice ta tm tc], .agg #[.string T.op, .string T.name, .int .i64 (T.kind : Nat), .int .i64 T.n, .int .i64 (T.pl : Nat), .slice sa sm sc], .bool (decide (bd < 0))]) (by simp [results, Tryz.results11, go_sem, q0, q1, q2, q3, q4, q5, y0, y1, y2, y3, y4, y5]) rfl ⟨JA.out, ta, sa, tm, tc, sm, sc, by rw [OK.out], JN.out, JD.out⟩
end Go.Proofs.YtiikdmnmfmfpdaaGreatDoor

namespace Go.Proofs.YtiikdmnmfmfpdaaGreatDoor
open Go.RowKit
set_option linter.unusedVariables false
set_option linter.unusedSimpArgs false

def SmR (t u : Tr) : Prop := ∀ (w : World) (S : Nat → Prop) (va vb : Value), Nd w S va t.kids → Nd w S vb u.kids → Calls Tryz.prog 15 #[.agg #[.string t.op, .string t.name, .int .i64 (t.kind : Nat), .int .i64 t.n, .int .i64 (t.pl : Nat), va], .agg #[.string u.op, .string u.name, .int .i64 (u.kind : Nat), .int .i64 u.n, .int .i64 (u.pl : Nat), vb]] w fun e w' => e = .returned (.bool (smT t u)) ∧ Below w.heap.size w w'
theorem Nd.lenX {w : World} {S : Nat → Prop} {v : Value} {ts : List Tr} (h : Nd w S v ts) : ∃ a c, v = .slice a ts.length c := by
  cases h with
  | nil => exact ⟨_, _, rfl⟩
  | row g c ts sl hs h0 hc hk => exact ⟨_, _, rfl⟩
theorem Nd.atL {w : World} {S : Nat → Prop} {v : Value} {ts : List Tr} (h : Nd w S v ts) (i : Nat) (t : Tr) (hi : ts[i]? = some t) : ∃ (g c : Nat) (s : Value), v = .slice (some ⟨g, 0, none⟩) ts.length c ∧ NC w g (i * 6) t s ∧ Nd w S s t.kids := by
  cases h with
  | nil => simp at hi
  | row g c ts sl hs h0 hc hk => exact ⟨g, c, sl i, rfl, hc i t hi, hk i t hi⟩
theorem Nd.gw {w w' : World} {S : Nat → Prop} {v : Value} {ts : List Tr} (h : Nd w S v ts) (q : Below w.heap.size w w') : Nd w' S v ts := h.keep fun g s l => ⟨s, q.block g l⟩
set_option maxRecDepth 100000 in
set_option maxHeartbeats 4000000 in
theorem rsame_nd (o m o' m' : ByteArray) (k k' : Nat) (n n' : Int) (p p' : Nat) (ks us : List Tr) (hl : ks.length ≤ 10000) (hC : ∀ t, t ∈ ks → ∀ u, SmR t u) : SmR (.nd o m k n p ks) (.nd o' m' k' n' p' us) := by
  intro w S va vb hA hB
  simp only [Tr.op, Tr.name, Tr.kind, Tr.n, Tr.pl, Tr.kids] at hA hB ⊢
  obtain ⟨aa, ac, rfl⟩ := hA.lenX
  obtain ⟨ba, bc, rfl⟩ := hB.lenX
  have B1 := hid (show Below w.heap.size w (w.alloc (.cells #[.string o, .string m, .int .i64 (k : Nat), .int .i64 n, .int .i64 (p : Nat), .slice aa ks.length ac] 32)) from (Below.refl _ _).alloc (Nat.le_refl _) _)
  have X1 := hid (B6.new w 32 (.string o) (.string m) (.int .i64 (k : Nat)) (.int .i64 n) (.int .i64 (p : Nat)) (.slice aa ks.length ac))
  obtain ⟨w1, hw1⟩ : ∃ w1, (w.alloc (.cells #[.string o, .string m, .int .i64 (k : Nat), .int .i64 n, .int .i64 (p : Nat), .slice aa ks.length ac] 32)) = w1 := ⟨_, rfl⟩
  rw [hw1] at B1 X1
  have S1 := hid (show w1.heap.size = w.heap.size + 1 from by rw [← hw1]; simp)
  have B2' := hid (show Below w1.heap.size w1 (w1.alloc (.cells #[.string o', .string m', .int .i64 (k' : Nat), .int .i64 n', .int .i64 (p' : Nat), .slice ba us.length bc] 32)) from (Below.refl _ _).alloc (Nat.le_refl _) _)
  have X2 := hid (B6.new w1 32 (.string o') (.string m') (.int .i64 (k' : Nat)) (.int .i64 n') (.int .i64 (p' : Nat)) (.slice ba us.length bc))
  have Y1 := hid (X1.out.next B2'.out)
  have B2 := hid (nextB B1.out B2'.out)
  have NA := hid (hA.gw B2.out)
  have NB := hid (hB.gw B2.out)
  have CH := hid hC
  have HL := hid hl
  obtain ⟨F, hF⟩ : ∃ F, smT (.nd o m k n p ks) (.nd o' m' k' n' p' us) = F := ⟨_, rfl⟩
  have FE := hid hF
  rw [hF]
  have xne : w.heap.size < w1.heap.size := by have := S1.out; omega
  clear hA hB hC hl hF B2' X1 B1
  go_enter Tryz.func15, Tryz.ntmps15
  go_upto_region 1 with fail
  clear hw1
  generalize World.alloc w1 _ = w2 at *
  generalize w1.heap.size = xb at *
  obtain ⟨a0, a1, a2, a3, a4, a5, az⟩ := Y1.out
  obtain ⟨b0, b1, b2, b3, b4, b5, bz⟩ := X2.out
  cases e1 : eqB o o' with
  | false =>
    have x1 : (o.toList == o'.toList) = false := (eqB_is o o').trans e1
    have FF : F = false := by rw [← FE.out]; unfold smT; rw [e1]; simp
    subst FF
    go_wp2_with fail
    go_ret
    exact ⟨rfl, B2.out⟩
  | true =>
    have x1 : (o.toList == o'.toList) = true := (eqB_is o o').trans e1
    cases e2 : eqB m m' with
    | false =>
      have x2 : (m.toList == m'.toList) = false := (eqB_is m m').trans e2
      have FF : F = false := by rw [← FE.out]; unfold smT; rw [e1, e2]; simp
      subst FF
      go_wp2_with fail
      go_ret
      exact ⟨rfl, B2.out⟩
    | true =>
      have x2 : (m.toList == m'.toList) = true := (eqB_is m m').trans e2
      by_cases e3 : k = k'
      · subst e3
        by_cases e4 : n = n'
        · subst e4
          have FE2 := hid (show smL ks us = F from by rw [← FE.out]; unfold smT; rw [e1, e2]; simp)
          clear e1 e2
          by_cases e5 : ks.length = us.length
          · have x5 : (ks.length : Int) = (us.length : Int) := by omega
            have E5 := hid e5
            clear e5
            go_wp2_with fail
            go_loopg [5] (ks.length) (fun g iv wr => ∃ i : Nat, i ≤ ks.length ∧ g = ks.length - i ∧ iv = .int .i64 (i : Nat) ∧ Hid (Below w.heap.size w wr ∧ Below w2.heap.size w2 wr) ∧ Hid (smL (ks.drop i) (us.drop i) = F))
            case atStart => exact ⟨0, Nat.zero_le _, rfl, rfl, ⟨B2.out, Below.refl _ _⟩, FE2.out⟩
            case round =>
              clear a0 a1 a2 a3 a4 b0 b1 b2 b3 b4 x1 x2 a5 b5 az bz x5
              obtain ⟨i, hi, rfl, rfl, BW, EH⟩ := hrel
              have d5 := (Y1.out.next BW.out.2).c5
              have f5 := (X2.out.next BW.out.2).c5
              have KL9 : (ks.length : Int) ≤ 10000 := by have := HL.out; omega
              have UL9 : (us.length : Int) ≤ 10000 := by have := HL.out; have := E5.out; omega
              by_cases q : i < ks.length
              · have q' : (i : Int) < (ks.length : Int) := by omega
                have q2 : (i : Int) < (us.length : Int) := by have := E5.out; omega
                obtain ⟨t, ht⟩ : ∃ t, ks[i]? = some t := ⟨_, List.getElem?_eq_getElem q⟩
                obtain ⟨u, hu⟩ : ∃ u, us[i]? = some u := ⟨_, List.getElem?_eq_getElem (by have := E5.out; omega)⟩
                have SE := hid (show (smT t u && smL (ks.drop (i + 1)) (us.drop (i + 1))) = F from by
                  rw [← EH.out, List.drop_eq_getElem_cons q, List.drop_eq_getElem_cons (by have := E5.out; omega : i < us.length)]
                  rw [List.getElem?_eq_getElem q] at ht
                  rw [List.getElem?_eq_getElem (by have := E5.out; omega : i < us.length)] at hu
                  injection ht with ht
                  injection hu with hu
                  rw [ht, hu]
                  simp only [smL])
                obtain ⟨g1, c1, s1, ea, n1, m1⟩ := (NA.out.gw BW.out.2).atL i t ht
                obtain ⟨g2, c2, s2, eb, n2, m2⟩ := (NB.out.gw BW.out.2).atL i u hu
                obtain ⟨z1, z2, z3, rfl⟩ := m1.slice
                obtain ⟨y1, y2, y3, rfl⟩ := m2.slice
                injection ea with ea _ ec
                injection eb with eb _ ed
                subst ea ec eb ed
                have N1 := hid n1
                have N2 := hid n2
                have IC := hid (CH.out t (List.mem_of_getElem? ht) u wr.drew S (.slice z1 z2 z3) (.slice y1 y2 y3) (m1.gw (Below.refl _ _).drew) (m2.gw (Below.refl _ _).drew))
                have L6 := hid (show w.heap.size < wr.drew.heap.size ∧ xb < wr.drew.heap.size from ⟨(Y1.out.next BW.out.2).lt, (X2.out.next BW.out.2).lt⟩)
                replace BW := hid (show Below w.heap.size w wr.drew ∧ Below w2.heap.size w2 wr.drew from ⟨nextB BW.out.1 (Below.refl _ _).drew, nextB BW.out.2 (Below.refl _ _).drew⟩)
                clear n1 n2 m1 m2 ht hu EH
                go_upto_region 6 with fail
                refine wp_region_held_drew (S := (fun W => W.cell? ⟨w.heap.size, 5, none⟩ = some (.slice (some ⟨g1, 0, none⟩) ks.length ac) ∧ W.cell? ⟨xb, 5, none⟩ = some (.slice (some ⟨g2, 0, none⟩) us.length bc) ∧ NC W g1 (i * 6) t (.slice z1 z2 z3) ∧ NC W g2 (i * 6) u (.slice y1 y2 y3))) (by kernel_rfl) ⟨d5, f5, N1.out.keep rfl, N2.out.keep rfl⟩ (fun hHeld => ?_)
                clear N1 N2
                generalize wr.drew = w6 at *
                refine take2 rfl (i := 0) (v := (.pointer (some ⟨w.heap.size, 5, none⟩))) (d := 48) rfl rfl (by kernel_rfl) (by kernel_rfl) (by kernel_rfl) (fun _ _ _ h => h) (Or.inl ⟨by rfl, ?_⟩) hHeld ?_
                · (intro W hW; (try dsimp only at hW); go_simp)
                try simp only [Act.put, List.setIfInBounds_toArray, List.set_cons_zero, List.set_cons_succ]
                refine take2 rfl (i := 1) (v := (.slice (some ⟨g1, 0, none⟩) ks.length ac)) (d := 49) rfl rfl (by kernel_rfl) (by kernel_rfl) (by kernel_rfl) (fun _ _ _ h => h) (Or.inl ⟨by rfl, ?_⟩) hHeld ?_
                · (intro W hW; (try dsimp only at hW); go_simp)
                try simp only [Act.put, List.setIfInBounds_toArray, List.set_cons_zero, List.set_cons_succ]
                refine take2 rfl (i := 2) (v := (.int .i64 (i : Nat))) (d := 50) rfl rfl (by kernel_rfl) (by kernel_rfl) (by kernel_rfl) (fun _ _ _ h => h) (Or.inl ⟨by rfl, ?_⟩) hHeld ?_
                · (intro W hW; (try dsimp only at hW); go_simp)
                try simp only [Act.put, List.setIfInBounds_toArray, List.set_cons_zero, List.set_cons_succ]
                refine take2 rfl (i := 3) (v := (.pointer (some ⟨g1, i * 6, none⟩))) (d := 51) rfl rfl (by kernel_rfl) (by kernel_rfl) (by kernel_rfl) (fun _ _ _ h => h) (Or.inl ⟨by rfl, ?_⟩) hHeld ?_
                · (intro W hW; (try dsimp only at hW); go_simp)
                try simp only [Act.put, List.setIfInBounds_toArray, List.set_cons_zero, List.set_cons_succ]
                refine take2 rfl (i := 4) (v := (.agg #[.string t.op, .string t.name, .int .i64 (t.kind : Nat), .int .i64 t.n, .int .i64 (t.pl : Nat), (.slice z1 z2 z3)])) (d := 52) rfl rfl (by kernel_rfl) (by kernel_rfl) (by kernel_rfl) (fun _ _ _ h => h) (Or.inl ⟨by rfl, ?_⟩) hHeld ?_
                · (intro W hW; (try dsimp only at hW); obtain ⟨hW0, hW1, hW2, hW3, hW4, hW5⟩ := hW.2.2.1; go_simp)
                try simp only [Act.put, List.setIfInBounds_toArray, List.set_cons_zero, List.set_cons_succ]
                refine take2 rfl (i := 5) (v := (.pointer (some ⟨xb, 5, none⟩))) (d := 53) rfl rfl (by kernel_rfl) (by kernel_rfl) (by kernel_rfl) (fun _ _ _ h => h) (Or.inl ⟨by rfl, ?_⟩) hHeld ?_
                · (intro W hW; (try dsimp only at hW); go_simp)
                try simp only [Act.put, List.setIfInBounds_toArray, List.set_cons_zero, List.set_cons_succ]
                refine take2 rfl (i := 6) (v := (.slice (some ⟨g2, 0, none⟩) us.length bc)) (d := 54) rfl rfl (by kernel_rfl) (by kernel_rfl) (by kernel_rfl) (fun _ _ _ h => h) (Or.inl ⟨by rfl, ?_⟩) hHeld ?_
                · (intro W hW; (try dsimp only at hW); go_simp)
                try simp only [Act.put, List.setIfInBounds_toArray, List.set_cons_zero, List.set_cons_succ]
                refine take2 rfl (i := 7) (v := (.int .i64 (i : Nat))) (d := 55) rfl rfl (by kernel_rfl) (by kernel_rfl) (by kernel_rfl) (fun _ _ _ h => h) (Or.inl ⟨by rfl, ?_⟩) hHeld ?_
                · (intro W hW; (try dsimp only at hW); go_simp)
                try simp only [Act.put, List.setIfInBounds_toArray, List.set_cons_zero, List.set_cons_succ]
                refine take2 rfl (i := 8) (v := (.pointer (some ⟨g2, i * 6, none⟩))) (d := 56) rfl rfl (by kernel_rfl) (by kernel_rfl) (by kernel_rfl) (fun _ _ _ h => h) (Or.inl ⟨by rfl, ?_⟩) hHeld ?_
                · (intro W hW; (try dsimp only at hW); go_simp)
                try simp only [Act.put, List.setIfInBounds_toArray, List.set_cons_zero, List.set_cons_succ]
                refine take2 rfl (i := 9) (v := (.agg #[.string u.op, .string u.name, .int .i64 (u.kind : Nat), .int .i64 u.n, .int .i64 (u.pl : Nat), (.slice y1 y2 y3)])) (d := 57) rfl rfl (by kernel_rfl) (by kernel_rfl) (by kernel_rfl) (fun _ _ _ h => h) (Or.inl ⟨by rfl, ?_⟩) hHeld ?_
                · (intro W hW; (try dsimp only at hW); obtain ⟨hW0, hW1, hW2, hW3, hW4, hW5⟩ := hW.2.2.2; go_simp)
                try simp only [Act.put, List.setIfInBounds_toArray, List.set_cons_zero, List.set_cons_succ]
                refine wpAnyH_ready (rs := [10]) (by kernel_rfl) (by simp) ?_
                refine cons2 rfl rfl (fun K9 hK => ?_)
                go_simp
                refine Calls.mono (IC.out) ?_
                rintro e w7 ⟨rfl, b7⟩
                have B7 := hid b7
                clear b7
                go_wp2_with fail
                refine hK.out _ _ (⟨(World.cell?_of_block (a := ⟨w.heap.size, 5, none⟩) (B7.out.block w.heap.size L6.out.1)).trans hHeld.1, (World.cell?_of_block (a := ⟨xb, 5, none⟩) (B7.out.block xb L6.out.2)).trans hHeld.2.1, hHeld.2.2.1.keep (B7.out.block g1 (World.block_lt_of_cell? _ _ hHeld.2.2.1.e0)), hHeld.2.2.2.keep (B7.out.block g2 (World.block_lt_of_cell? _ _ hHeld.2.2.2.e0))⟩) (fun hX => ?_)
                clear hK K9 hHeld
                have hHeld := hX
                clear hX
                try simp only [Act.put, List.setIfInBounds_toArray, List.set_cons_zero, List.set_cons_succ]
                refine take2 rfl (i := 11) (v := (.bool (!smT t u))) (d := 59) rfl rfl (by kernel_rfl) (by kernel_rfl) (by kernel_rfl) (fun _ _ _ h => h) (Or.inl ⟨by rfl, ?_⟩) hHeld ?_
                · (intro W hW; (try dsimp only at hW); go_simp)
                try simp only [Act.put, List.setIfInBounds_toArray, List.set_cons_zero, List.set_cons_succ]
                refine wpAnyH_done (by kernel_rfl) ?_ _
                replace BW := hid (show Below w.heap.size w w7 ∧ Below w2.heap.size w2 w7 from ⟨nextB BW.out.1 B7.out, nextB BW.out.2 B7.out⟩)
                clear hHeld B7
                cases y : smT t u with
                | false =>
                  have FF : F = false := by rw [← SE.out, y]; rfl
                  subst FF
                  go_wp2_with fail
                  go_ret
                  exact ⟨rfl, BW.out.1⟩
                | true =>
                  have FF := hid (show smL (ks.drop (i + 1)) (us.drop (i + 1)) = F from by rw [← SE.out, y]; rfl)
                  go_wp2_with fail
                  go_roundg (ks.length - (i + 1))
                  case measure => omega
                  case rel => exact ⟨i + 1, by omega, rfl, by rw [Int.natCast_add]; rfl, BW, FF.out⟩
              · have q' : ¬ (i : Int) < (ks.length : Int) := by omega
                have FF : F = true := by
                  rw [← EH.out, List.drop_eq_nil_of_le (by omega), List.drop_eq_nil_of_le (by have := E5.out; omega)]
                  rfl
                subst FF
                go_wp2_with fail
                go_ret
                exact ⟨rfl, BW.out.1⟩
          · have x5 : ¬ (ks.length : Int) = (us.length : Int) := by omega
            have FF : F = false := by rw [← FE2.out]; exact smL_len _ _ e5
            subst FF
            go_wp2_with fail
            go_ret
            exact ⟨rfl, B2.out⟩
        · have FF : F = false := by rw [← FE.out]; unfold smT; rw [e1, e2]; simp [e4]
          subst FF
          go_wp2_with fail
          go_ret
          exact ⟨rfl, B2.out⟩
      · have x3 : ¬ (k : Int) = (k' : Int) := by omega
        have FF : F = false := by rw [← FE.out]; unfold smT; rw [e1, e2]; simp [e3]
        subst FF
        go_wp2_with fail
        go_ret
        exact ⟨rfl, B2.out⟩
theorem rsame_any {t : Tr} (h : Sz t) : ∀ u, SmR t u := by
  induction h with
  | mk t hl _ ih =>
    intro u
    cases t with
    | nd o m k n p ks => cases u with
      | nd o' m' k' n' p' us => exact rsame_nd o m o' m' k k' n n' p p' ks us hl (fun t ht u => ih t ht u)
end Go.Proofs.YtiikdmnmfmfpdaaGreatDoor

namespace Go.Proofs.YtiikdmnmfmfpdaaGreatDoor
open Go.Shelf Go.RowKit
set_option linter.unusedVariables false
set_option linter.unusedSimpArgs false

set_option maxRecDepth 100000 in
set_option maxHeartbeats 4000000 in
theorem same_at (o m o' m' : ByteArray) (k k' : Nat) (n n' pv : Int) (p p' : Nat) (ks us : List Tr) (hl : ks.length ≤ 100000) (hC : ∀ t ∈ ks, ∀ u ∈ us, SmC t u) (w : World) (S : Nat → Prop) (aa ba : Option Addr) (am ac bm bc : Nat) (hA : Nd w S (.slice aa am ac) ks) (hB : Nd w S (.slice ba bm bc) us) :
    Calls Tryz.prog 14 #[.agg #[.string o, .string m, .int .i64 (k : Nat), .int .i64 n, .int .i64 pv, .slice aa am ac], .agg #[.string o', .string m', .int .i64 (k' : Nat), .int .i64 n', .int .i64 (p' : Nat), .slice ba bm bc]] w fun e w' => e = .returned (.bool (smT (.nd o m k n p ks) (.nd o' m' k' n' p' us))) ∧ Below w.heap.size w w' := by
  have B1 := hid (show Below w.heap.size w (w.alloc (.cells #[.string o, .string m, .int .i64 (k : Nat), .int .i64 n, .int .i64 pv, .slice aa am ac] 26)) from (Below.refl _ _).alloc (Nat.le_refl _) _)
  have X1 := hid (B6.new w 26 (.string o) (.string m) (.int .i64 (k : Nat)) (.int .i64 n) (.int .i64 pv) (.slice aa am ac))
  obtain ⟨w1, hw1⟩ : ∃ w1, (w.alloc (.cells #[.string o, .string m, .int .i64 (k : Nat), .int .i64 n, .int .i64 pv, .slice aa am ac] 26)) = w1 := ⟨_, rfl⟩
  rw [hw1] at B1 X1
  have S1 := hid (show w1.heap.size = w.heap.size + 1 from by rw [← hw1]; simp)
  have B2' := hid (show Below w1.heap.size w1 (w1.alloc (.cells #[.string o', .string m', .int .i64 (k' : Nat), .int .i64 n', .int .i64 (p' : Nat), .slice ba bm bc] 26)) from (Below.refl _ _).alloc (Nat.le_refl _) _)
  have X2 := hid (B6.new w1 26 (.string o') (.string m') (.int .i64 (k' : Nat)) (.int .i64 n') (.int .i64 (p' : Nat)) (.slice ba bm bc))
  have Y1 := hid (X1.out.next B2'.out)
  have B2 := hid (nextB B1.out B2'.out)
  have EC := hid (eqf_any ks us _ S aa ba am ac bm bc (hA.any B2.out) (hB.any B2.out) hl hC)
  obtain ⟨F, hF⟩ : ∃ F, smT (.nd o m k n p ks) (.nd o' m' k' n' p' us) = F := ⟨_, rfl⟩
  have FE := hid hF
  rw [hF]
  clear hA hB hC hF B2'
  go_enter Tryz.func14, Tryz.ntmps14
  go_upto_region 1 with fail
  clear hw1
  generalize World.alloc w1 _ = w2 at *
  obtain ⟨a0, a1, a2, a3, a4, a5, az⟩ := Y1.out
  obtain ⟨b0, b1, b2, b3, b4, b5, bz⟩ := X2.out
  cases e1 : eqB o o'
  · have u1 : (o.toList == o'.toList) = false := (eqB_is o o').trans e1
    have FF : F = false := by rw [← FE.out]; unfold smT; rw [e1]; simp
    subst FF
    go_wp2_with fail
    go_ret
    exact ⟨rfl, B2.out⟩
  · have u1 : (o.toList == o'.toList) = true := (eqB_is o o').trans e1
    cases e2 : eqB m m'
    · have u2 : (m.toList == m'.toList) = false := (eqB_is m m').trans e2
      have FF : F = false := by rw [← FE.out]; unfold smT; rw [e2]; simp
      subst FF
      go_wp2_with fail
      go_ret
      exact ⟨rfl, B2.out⟩
    · have u2 : (m.toList == m'.toList) = true := (eqB_is m m').trans e2
      by_cases e3 : k = k'
      · subst e3
        by_cases e4 : n = n'
        · subst e4
          have FF := hid (show smL ks us = F from by rw [← FE.out]; unfold smT; rw [e1, e2]; simp)
          rw [FF.out] at EC
          go_wp2_with (go_at_call 24; with_reducible refine Calls.mono EC.out ?_; rintro e w4 ⟨rfl, x4⟩)
          go_ret
          exact ⟨rfl, nextB B2.out x4⟩
        · have u4 : (n == n') = false := by simpa using e4
          have FF : F = false := by rw [← FE.out]; unfold smT; rw [e1, e2, decide_eq_false e4]; simp
          subst FF
          go_wp2_with fail
          go_ret
          exact ⟨rfl, B2.out⟩
      · have u3 : ((k : Int) == (k' : Int)) = false := by rw [beq_eq_false_iff_ne]; omega
        have FF : F = false := by rw [← FE.out]; unfold smT; rw [e1, e2, decide_eq_false e3]; simp
        subst FF
        go_wp2_with fail
        go_ret
        exact ⟨rfl, B2.out⟩

theorem Sz.nw {t : Tr} (h : Sz t) : Nw t := by
  induction h with
  | mk t hl _ ih =>
    cases t with
    | nd o m k n p ks => exact .nd o m k n p ks (Nat.le_trans hl (by decide)) (fun t ht => ih t ht)
theorem same_pv {t : Tr} (h : Sz t) (u : Tr) (pv : Int) (w : World) (S : Nat → Prop) (aa ba : Option Addr) (am ac bm bc : Nat) (hA : Nd w S (.slice aa am ac) t.kids) (hB : Nd w S (.slice ba bm bc) u.kids) :
    Calls Tryz.prog 14 #[.agg #[.string t.op, .string t.name, .int .i64 (t.kind : Nat), .int .i64 t.n, .int .i64 pv, .slice aa am ac], .agg #[.string u.op, .string u.name, .int .i64 (u.kind : Nat), .int .i64 u.n, .int .i64 (u.pl : Nat), .slice ba bm bc]] w fun e w' => e = .returned (.bool (smT t u)) ∧ Below w.heap.size w w' := by
  cases h with
  | mk t hl hk =>
    cases t with
    | nd o m k n p ks => cases u with
      | nd o' m' k' n' p' us => exact same_at o m o' m' k k' n n' pv p p' ks us (Nat.le_trans hl (by decide)) (fun t ht u _ => same_any (hk t ht).nw u) w S aa ba am ac bm bc hA hB
end Go.Proofs.YtiikdmnmfmfpdaaGreatDoor

namespace Go.Proofs.YtiikdmnmfmfpdaaGreatDoor
open Go.RowKit
set_option linter.unusedVariables false
set_option linter.unusedSimpArgs false

set_option maxRecDepth 100000 in
set_option maxHeartbeats 4000000 in
theorem same_walk (a b : ByteArray) (pv : Int) (W : World) (hT : Tbs W) :
    Calls Tryz.prog 5 #[.string a, .string b, .int .i64 pv] W fun e W' => e = .returned (.bool true) ∧ Below W.heap.size W W' := by
  have AC := hid (awake_any W hT)
  clear hT
  by_cases ha : a.size ≤ 2000
  · by_cases hb : b.size ≤ 2000
    · have RA := hid (fun w => read_any a w (by omega))
      have RB := hid (fun w => read_any b w (by omega))
      have ZA := hid (sz_tr (t := a) (by omega))
      have ha' : ¬ (2000 : Int) < (a.size : Int) := by omega
      have hb' : ¬ (2000 : Int) < (b.size : Int) := by omega
      unfold RdX at RA RB
      generalize trX a = A at *
      generalize trX b = B at *
      generalize okX a = oa at *
      generalize okX b = ob at *
      clear ha hb
      go_enter Tryz.func5, Tryz.ntmps5
      go_upto_region 5 with (go_at_call 6; with_reducible refine Calls.mono AC.out ?_; rintro e w1 ⟨rfl, b1⟩; have BL := hid b1; clear b1 AC)
      have RA1 := hid (RA.out w1)
      go_upto_region 6 with (go_at_call 11; with_reducible refine Calls.mono RA1.out ?_; rintro e w2 ⟨b2, sa, sb, sm, sc, sn, sd, rfl, nd1, nd2⟩; replace BL := hid (nextB BL.out b2); have N1 := hid nd1; have N2 := hid nd2; clear b2 nd1 nd2 RA1)
      have A2 := hid (show Below w2.heap.size w2 ((w2.alloc (.cells #[.string A.op, .string A.name, .int .i64 (A.kind : Nat), .int .i64 A.n, .int .i64 (A.pl : Nat), .slice sa sm sc] 26)).alloc (.cells #[.string A.op, .string A.name, .int .i64 (A.kind : Nat), .int .i64 A.n, .int .i64 (A.pl : Nat), .slice sb sn sd] 32)) from ((Below.refl _ _).alloc (Nat.le_refl _) _).alloc (by simp) _)
      have X1 := hid (show B6 ((w2.alloc (.cells #[.string A.op, .string A.name, .int .i64 (A.kind : Nat), .int .i64 A.n, .int .i64 (A.pl : Nat), .slice sa sm sc] 26)).alloc (.cells #[.string A.op, .string A.name, .int .i64 (A.kind : Nat), .int .i64 A.n, .int .i64 (A.pl : Nat), .slice sb sn sd] 32)) w2.heap.size (.string A.op) (.string A.name) (.int .i64 (A.kind : Nat)) (.int .i64 A.n) (.int .i64 (A.pl : Nat)) (.slice sa sm sc) from (B6.new w2 26 _ _ _ _ _ _).next ((Below.refl _ _).alloc (Nat.le_refl _) _))
      have X2 := hid (show B6 ((w2.alloc (.cells #[.string A.op, .string A.name, .int .i64 (A.kind : Nat), .int .i64 A.n, .int .i64 (A.pl : Nat), .slice sa sm sc] 26)).alloc (.cells #[.string A.op, .string A.name, .int .i64 (A.kind : Nat), .int .i64 A.n, .int .i64 (A.pl : Nat), .slice sb sn sd] 32)) (w2.heap.size + 1) (.string A.op) (.string A.name) (.int .i64 (A.kind : Nat)) (.int .i64 A.n) (.int .i64 (A.pl : Nat)) (.slice sb sn sd) from by have := B6.new (w2.alloc (.cells #[.string A.op, .string A.name, .int .i64 (A.kind : Nat), .int .i64 A.n, .int .i64 (A.pl : Nat), .slice sa sm sc] 26)) 32 (.string A.op) (.string A.name) (.int .i64 (A.kind : Nat)) (.int .i64 A.n) (.int .i64 (A.pl : Nat)) (.slice sb sn sd); rw [show (w2.alloc (.cells #[.string A.op, .string A.name, .int .i64 (A.kind : Nat), .int .i64 A.n, .int .i64 (A.pl : Nat), .slice sa sm sc] 26)).heap.size = w2.heap.size + 1 by simp] at this; exact this)
      have L1 := hid (show W.heap.size ≤ w2.heap.size from BL.out.size)
      replace BL := hid (nextB BL.out A2.out)
      have M1 := hid (N1.out.keep (S' := fun g => g < w2.heap.size) fun g s l => ⟨l, A2.out.block g l⟩)
      have M2 := hid (N2.out.keep (S' := fun g => g < w2.heap.size) fun g s l => ⟨l, A2.out.block g l⟩)
      clear A2 N1 N2
      generalize World.alloc (World.alloc w2 _) _ = w3 at *
      have q1 : w2.heap.size < w2.heap.size + 1 := by omega
      generalize w2.heap.size + 1 = g2 at *
      have l1 : W.heap.size ≤ w2.heap.size := L1.out
      clear L1
      generalize w2.heap.size = g1 at *
      have RB1 := hid (RB.out w3)
      have NL := hid (show g1 < w3.heap.size from X1.out.lt)
      go_upto_region 7 with (go_at_call 11; with_reducible refine Calls.mono RB1.out ?_; rintro e w4 ⟨b4, ta, tb, tm, tc, tn, td, rfl, nd1, nd2⟩; replace BL := hid (nextB BL.out b4); replace X1 := hid (X1.out.next b4); replace X2 := hid (X2.out.next b4); replace M1 := hid (M1.out.gw b4); replace M2 := hid (M2.out.gw b4); have GL := hid X2.out.lt; have N1 := hid nd1; have N2 := hid nd2; clear b4 nd1 nd2 RB1)
      have A4 := hid (show Below w4.heap.size w4 ((w4.alloc (.cells #[.string B.op, .string B.name, .int .i64 (B.kind : Nat), .int .i64 B.n, .int .i64 (B.pl : Nat), .slice ta tm tc] 26)).alloc (.cells #[.string B.op, .string B.name, .int .i64 (B.kind : Nat), .int .i64 B.n, .int .i64 (B.pl : Nat), .slice tb tn td] 32)) from ((Below.refl _ _).alloc (Nat.le_refl _) _).alloc (by simp) _)
      have X3 := hid (show B6 ((w4.alloc (.cells #[.string B.op, .string B.name, .int .i64 (B.kind : Nat), .int .i64 B.n, .int .i64 (B.pl : Nat), .slice ta tm tc] 26)).alloc (.cells #[.string B.op, .string B.name, .int .i64 (B.kind : Nat), .int .i64 B.n, .int .i64 (B.pl : Nat), .slice tb tn td] 32)) w4.heap.size (.string B.op) (.string B.name) (.int .i64 (B.kind : Nat)) (.int .i64 B.n) (.int .i64 (B.pl : Nat)) (.slice ta tm tc) from (B6.new w4 26 _ _ _ _ _ _).next ((Below.refl _ _).alloc (Nat.le_refl _) _))
      have X4 := hid (show B6 ((w4.alloc (.cells #[.string B.op, .string B.name, .int .i64 (B.kind : Nat), .int .i64 B.n, .int .i64 (B.pl : Nat), .slice ta tm tc] 26)).alloc (.cells #[.string B.op, .string B.name, .int .i64 (B.kind : Nat), .int .i64 B.n, .int .i64 (B.pl : Nat), .slice tb tn td] 32)) (w4.heap.size + 1) (.string B.op) (.string B.name) (.int .i64 (B.kind : Nat)) (.int .i64 B.n) (.int .i64 (B.pl : Nat)) (.slice tb tn td) from by have := B6.new (w4.alloc (.cells #[.string B.op, .string B.name, .int .i64 (B.kind : Nat), .int .i64 B.n, .int .i64 (B.pl : Nat), .slice ta tm tc] 26)) 32 (.string B.op) (.string B.name) (.int .i64 (B.kind : Nat)) (.int .i64 B.n) (.int .i64 (B.pl : Nat)) (.slice tb tn td); rw [show (w4.alloc (.cells #[.string B.op, .string B.name, .int .i64 (B.kind : Nat), .int .i64 B.n, .int .i64 (B.pl : Nat), .slice ta tm tc] 26)).heap.size = w4.heap.size + 1 by simp] at this; exact this)
      replace BL := hid (nextB BL.out A4.out)
      replace X1 := hid (X1.out.next A4.out)
      replace X2 := hid (X2.out.next A4.out)
      replace M1 := hid ((M1.out.keep (S' := fun g => g < w4.heap.size ∧ g ≠ g1) fun g s l => ⟨⟨l, by omega⟩, A4.out.block g l⟩))
      replace M2 := hid ((M2.out.keep (S' := fun g => g < w4.heap.size ∧ g ≠ g1) fun g s l => ⟨⟨l, by omega⟩, A4.out.block g l⟩))
      have q3 : g2 < w4.heap.size := GL.out
      have M3 := hid ((N1.out.keep (S' := fun g => g ≠ g1) fun g s l => ⟨by have s : _ ≤ g := s; have := NL.out; omega, A4.out.block g l⟩))
      have M4 := hid ((N2.out.keep (S' := fun g => g ≠ g1) fun g s l => ⟨by have s : _ ≤ g := s; have := NL.out; omega, A4.out.block g l⟩))
      clear A4 N1 N2 GL
      generalize World.alloc (World.alloc w4 _) _ = w5 at *
      have q4 : w4.heap.size < w4.heap.size + 1 := by omega
      generalize w4.heap.size + 1 = g4 at *
      generalize w4.heap.size = g3 at *
      cases oa with
      | false =>
        go_wp2_with fail
        go_ret
        exact ⟨rfl, BL.out⟩
      | true =>
      cases ob with
      | false =>
        go_wp2_with fail
        go_ret
        exact ⟨rfl, BL.out⟩
      | true =>
      obtain ⟨h0, h1, h2, h3, h4, h5, hz⟩ := X1.out
      have Y1 := hid (show B6 (w5.setCell ⟨g1, 4, none⟩ (.int .i64 pv)) g1 (.string A.op) (.string A.name) (.int .i64 (A.kind : Nat)) (.int .i64 A.n) (.int .i64 pv) (.slice sa sm sc) from X1.out.set4 _)
      have Y2 := hid (X2.out.put (q := g1) (i := 4) (by omega) (.int .i64 pv))
      have Y3 := hid (X3.out.put (q := g1) (i := 4) (by omega) (.int .i64 pv))
      have Y4 := hid (X4.out.put (q := g1) (i := 4) (by omega) (.int .i64 pv))
      have P1 := hid (Nd.put (n := 0) M1.out (q := g1) (i := 4) (fun e => e.2 rfl) (.int .i64 pv))
      have P2 := hid (Nd.put (n := 0) M2.out (q := g1) (i := 4) (fun e => e.2 rfl) (.int .i64 pv))
      have P3 := hid (Nd.put (n := 0) M3.out (q := g1) (i := 4) (fun e => e rfl) (.int .i64 pv))
      have P4 := hid (Nd.put (n := 0) M4.out (q := g1) (i := 4) (fun e => e rfl) (.int .i64 pv))
      replace BL := hid (BL.out.setCell (p := ⟨g1, 4, none⟩) l1 (.int .i64 pv))
      clear X1 X2 X3 X4 M1 M2 M3 M4
      go_upto_region 10 with fail
      generalize World.setCell w5 _ _ = w6 at *
      clear h0 h1 h2 h3 h4 h5 hz
      have SC := hid (same_pv ZA.out B pv w6.drew (fun _ => True) sa ta sm sc tm tc (P1.out.keep fun g s l => ⟨trivial, rfl⟩) (P3.out.keep fun g s l => ⟨trivial, rfl⟩))
      have RC := hid (fun w (h : Below w6.drew.heap.size w6.drew w) => rsame_any ZA.out B w (fun _ => True) (.slice sb sn sd) (.slice tb tn td) ((P2.out.keep (S' := fun _ => True) fun g s l => ⟨trivial, rfl⟩ : Nd w6.drew _ _ _).gw h) ((P4.out.keep (S' := fun _ => True) fun g s l => ⟨trivial, rfl⟩ : Nd w6.drew _ _ _).gw h))
      replace BL := hid (nextB BL.out (Below.refl _ _).drew)
      replace Y1 := hid (Y1.out.next (Below.refl _ _).drew)
      replace Y2 := hid (Y2.out.next (Below.refl _ _).drew)
      replace Y3 := hid (Y3.out.next (Below.refl _ _).drew)
      replace Y4 := hid (Y4.out.next (Below.refl _ _).drew)
      clear P1 P2 P3 P4
      refine wp_region_held_drew (S := (fun W => B6 W g1 (.string A.op) (.string A.name) (.int .i64 (A.kind : Nat)) (.int .i64 A.n) (.int .i64 pv) (.slice sa sm sc) ∧ B6 W g3 (.string B.op) (.string B.name) (.int .i64 (B.kind : Nat)) (.int .i64 B.n) (.int .i64 (B.pl : Nat)) (.slice ta tm tc) ∧ B6 W g2 (.string A.op) (.string A.name) (.int .i64 (A.kind : Nat)) (.int .i64 A.n) (.int .i64 (A.pl : Nat)) (.slice sb sn sd) ∧ B6 W g4 (.string B.op) (.string B.name) (.int .i64 (B.kind : Nat)) (.int .i64 B.n) (.int .i64 (B.pl : Nat)) (.slice tb tn td))) (by kernel_rfl) ⟨Y1.out, Y3.out, Y2.out, Y4.out⟩ (fun hHeld => ?_)
      generalize w6.drew = w7 at *
      refine take2 rfl (i := 0) (v := (.agg #[.string A.op, .string A.name, .int .i64 (A.kind : Nat), .int .i64 A.n, .int .i64 pv, .slice sa sm sc])) (d := 43) rfl rfl (by kernel_rfl) (by kernel_rfl) (by kernel_rfl) (fun _ _ _ h => h) (Or.inl ⟨by rfl, ?_⟩) hHeld ?_
      · (intro W hW; (try dsimp only at hW); obtain ⟨hW0, hW1, hW2, hW3, hW4, hW5, hW6⟩ := hW.1; go_simp)
      try simp only [Act.put, List.setIfInBounds_toArray, List.set_cons_zero, List.set_cons_succ]
      refine take2 rfl (i := 1) (v := (.agg #[.string B.op, .string B.name, .int .i64 (B.kind : Nat), .int .i64 B.n, .int .i64 (B.pl : Nat), .slice ta tm tc])) (d := 44) rfl rfl (by kernel_rfl) (by kernel_rfl) (by kernel_rfl) (fun _ _ _ h => h) (Or.inl ⟨by rfl, ?_⟩) hHeld ?_
      · (intro W hW; (try dsimp only at hW); obtain ⟨hW0, hW1, hW2, hW3, hW4, hW5, hW6⟩ := hW.2.1; go_simp)
      try simp only [Act.put, List.setIfInBounds_toArray, List.set_cons_zero, List.set_cons_succ]
      refine take2 rfl (i := 3) (v := (.agg #[.string A.op, .string A.name, .int .i64 (A.kind : Nat), .int .i64 A.n, .int .i64 (A.pl : Nat), .slice sb sn sd])) (d := 46) rfl rfl (by kernel_rfl) (by kernel_rfl) (by kernel_rfl) (fun _ _ _ h => h) (Or.inl ⟨by rfl, ?_⟩) hHeld ?_
      · (intro W hW; (try dsimp only at hW); obtain ⟨hW0, hW1, hW2, hW3, hW4, hW5, hW6⟩ := hW.2.2.1; go_simp)
      try simp only [Act.put, List.setIfInBounds_toArray, List.set_cons_zero, List.set_cons_succ]
      refine take2 rfl (i := 4) (v := (.agg #[.string B.op, .string B.name, .int .i64 (B.kind : Nat), .int .i64 B.n, .int .i64 (B.pl : Nat), .slice tb tn td])) (d := 47) rfl rfl (by kernel_rfl) (by kernel_rfl) (by kernel_rfl) (fun _ _ _ h => h) (Or.inl ⟨by rfl, ?_⟩) hHeld ?_
      · (intro W hW; (try dsimp only at hW); obtain ⟨hW0, hW1, hW2, hW3, hW4, hW5, hW6⟩ := hW.2.2.2; go_simp)
      try simp only [Act.put, List.setIfInBounds_toArray, List.set_cons_zero, List.set_cons_succ]
      refine wpAnyH_ready (rs := [2]) (by kernel_rfl) (by simp) ?_
      refine cons2 rfl rfl (fun K9 hK => ?_)
      go_simp
      refine Calls.mono (SC.out) ?_
      rintro e w8 ⟨rfl, b8⟩
      replace BL := hid (nextB BL.out b8)
      replace Y1 := hid (Y1.out.next b8)
      replace Y2 := hid (Y2.out.next b8)
      replace Y3 := hid (Y3.out.next b8)
      replace Y4 := hid (Y4.out.next b8)
      have RC8 := hid (RC.out w8 b8)
      clear b8 SC RC
      go_wp2_with fail
      refine hK.out _ _ (⟨Y1.out, Y3.out, Y2.out, Y4.out⟩) (fun hX => ?_)
      clear hK K9 hHeld
      have hHeld := hX
      clear hX
      try simp only [Act.put, List.setIfInBounds_toArray, List.set_cons_zero, List.set_cons_succ]
      refine wpAnyH_ready (rs := [5]) (by kernel_rfl) (by simp) ?_
      refine cons2 rfl rfl (fun K9 hK => ?_)
      go_simp
      refine Calls.mono (RC8.out) ?_
      rintro e w9 ⟨rfl, b9⟩
      replace BL := hid (nextB BL.out b9)
      replace Y1 := hid (Y1.out.next b9)
      replace Y2 := hid (Y2.out.next b9)
      replace Y3 := hid (Y3.out.next b9)
      replace Y4 := hid (Y4.out.next b9)
      clear b9 RC8
      go_wp2_with fail
      refine hK.out _ _ (⟨Y1.out, Y3.out, Y2.out, Y4.out⟩) (fun hX => ?_)
      clear hK K9 hHeld
      have hHeld := hX
      clear hX
      try simp only [Act.put, List.setIfInBounds_toArray, List.set_cons_zero, List.set_cons_succ]
      refine take2 rfl (i := 6) (v := (.bool true)) (d := 49) rfl rfl (by kernel_rfl) (by kernel_rfl) (by kernel_rfl) (fun _ _ _ h => h) (Or.inl ⟨by rfl, ?_⟩) hHeld ?_
      · (intro W hW; (try dsimp only at hW); go_simp)
      try simp only [Act.put, List.setIfInBounds_toArray, List.set_cons_zero, List.set_cons_succ]
      refine take2 rfl (i := 7) (v := (.bool true)) (d := 6) rfl rfl (by kernel_rfl) (by kernel_rfl) (by kernel_rfl) (fun _ _ _ h => h) (Or.inl ⟨by rfl, ?_⟩) hHeld ?_
      · (intro W hW; (try dsimp only at hW); go_simp)
      try simp only [Act.put, List.setIfInBounds_toArray, List.set_cons_zero, List.set_cons_succ]
      refine wpAnyH_done (by kernel_rfl) ?_ _
      go_wp2_with fail
      go_ret
      exact ⟨rfl, BL.out⟩
    · have ha' : ¬ (2000 : Int) < (a.size : Int) := by omega
      have hb' : (2000 : Int) < (b.size : Int) := by omega
      clear ha hb
      go_enter Tryz.func5, Tryz.ntmps5
      go_wp2_with (go_at_call 6; with_reducible refine Calls.mono AC.out ?_; rintro e w1 ⟨rfl, b1⟩; have BL := hid b1; clear b1 AC)
      go_ret
      exact ⟨rfl, BL.out⟩
  · have ha' : (2000 : Int) < (a.size : Int) := by omega
    clear ha
    go_enter Tryz.func5, Tryz.ntmps5
    go_wp2_with (go_at_call 6; with_reducible refine Calls.mono AC.out ?_; rintro e w1 ⟨rfl, b1⟩; have BL := hid b1; clear b1 AC)
    go_ret
    exact ⟨rfl, BL.out⟩
end Go.Proofs.YtiikdmnmfmfpdaaGreatDoor

namespace Go.Proofs.YtiikdmnmfmfpdaaGreatDoor
open Go.ChangeShapes Go.WideShapes Go.ChangeAt Go.RowKit
set_option linter.unusedVariables false
set_option linter.unusedSimpArgs false

theorem own : ownKnob Tryz.prog.godebug = none := by kernel_rfl
theorem gTab : Tryz.prog.globalNamed "publican/lex.signs" = some 0 := by kernel_rfl
theorem gTabType : (Tryz.prog.globals[0]?).map (·.type) = some 70 := by kernel_rfl
theorem cellsTab : Tryz.prog.cellsOf 70 = 20 := by kernel_rfl
theorem cellsStr : Tryz.prog.cellsOf 9 = 1 := by kernel_rfl
theorem gKin : Tryz.prog.globalNamed "publican/syn.kindNames" = some 1 := by kernel_rfl
theorem gKinType : (Tryz.prog.globals[1]?).map (·.type) = some 111 := by kernel_rfl
theorem cellsKin : Tryz.prog.cellsOf 111 = 7 := by kernel_rfl
theorem gPow : Tryz.prog.globalNamed "internal/strconv.uint64pow10" = some 3 := by kernel_rfl
theorem gPowType : (Tryz.prog.globals[3]?).map (·.type) = some 128 := by kernel_rfl
theorem cellsPow : Tryz.prog.cellsOf 128 = 20 := by kernel_rfl
theorem cellsU64 : Tryz.prog.cellsOf 98 = 1 := by kernel_rfl
def strData {H : Type} (ss : List (List UInt8)) : DataW H := .agg (ss.map fun z => .lit (.string z))
/-- An array of texts that reads as a table holds the table's texts, cell for cell. -/
theorem cells_of_strs {H : Type} {enc : TypeId × Value → H} {P : Program} {w : World} {base : Nat} {sp : Nat → Bool} {held : Bool} {fuel : Nat} {t e : TypeId} {n : Nat} {cs : List Value} {zs : List (List UInt8)} {p : List MemPlace}
    (ht : P.underlying t = some (.array n e)) (he : P.underlying e = some .string) (hce : P.cellsOf e = 1) (hct : P.cellsOf t = n)
    (h : DataW.trod enc P w base sp held fuel t cs = some (strData zs, p)) : cs = zs.map fun z => Value.string (tx z) := by
  cases fuel with
  | zero => simp [DataW.trod] at h
  | succ fuel =>
    simp only [DataW.trod, ht, hce, hct, Nat.mul_one] at h
    split at h
    · rename_i hl
      obtain ⟨xs, hm, hx⟩ := Option.map_eq_some_iff.1 h
      have hxs : xs.map (·.1) = zs.map fun z => (DataW.lit (.string z) : DataW H) := by
        have := congrArg Prod.fst hx
        simpa [strData] using this
      have hxl : xs.length = n := by simpa using Lib.mapM_length hm
      have hzl : zs.length = n := by
        have := congrArg List.length hxs
        simp at this
        omega
      apply List.ext_getElem?
      intro i
      by_cases hi : i < n
      · obtain ⟨b, hb, hf⟩ := Lib.mapM_at hm i i (by simp [hi])
        obtain ⟨z, hc, rfl, _⟩ := DataW.trod_string he hf
        have h1 : cs[i]? = some (.string z) := by
          have := congrArg (·[0]?) hc
          simpa [List.getElem?_take, List.getElem?_drop] using this
        have h2 : (xs.map (·.1))[i]? = some (DataW.lit (.string z.data.toList) : DataW H) := by simp [hb]
        rw [hxs] at h2
        simp only [List.getElem?_map, Option.map_eq_some_iff, DataW.lit.injEq, Lit.string.injEq] at h2
        obtain ⟨z', hz', e⟩ := h2
        rw [h1, List.getElem?_map, hz']
        show some (Value.string z) = some (Value.string (tx z'))
        rw [e, tx_data]
      · rw [List.getElem?_eq_none (by omega), List.getElem?_eq_none (by simp; omega)]
    · cases h
theorem lv_next {P : Program} {w : World} {x : String × DataW Unit} {rest : List (String × DataW Unit)} {ps : List MemPlace} (h : DataW.LaidVars P w (x :: rest) ps) : ∃ q, DataW.LaidVars P w rest q := by
  obtain ⟨g', t', cs, fuel, p, q, hg', ht', hvar, hd, h1, h2⟩ := h
  exact ⟨q, by assumption⟩
def kNb : List (List UInt8) := kNl.map fun x => x.data.toList
theorem tbs_of {W : World} (h : laidMetH Tryz.prog Rows.synSameRow.laid W) : Tbs W := by
  obtain ⟨ps, h0, _⟩ := (h : laidMet Tryz.prog Rows.synSameRow.laid W)
  obtain ⟨p1, h1⟩ := lv_next h0
  obtain ⟨p2, h2⟩ := lv_next h1
  obtain ⟨p3, h3⟩ := lv_next h2
  obtain ⟨p4, h4⟩ := lv_next h3
  have A2 : DataW.LaidVars Tryz.prog W (("internal/strconv.uint64pow10", Lib.tabData .u64 Lib.pow10Tab) :: _) p2 := h2
  have A3 : DataW.LaidVars Tryz.prog W (("publican/lex.signs", strData sgl) :: _) p3 := h3
  have A4 : DataW.LaidVars Tryz.prog W (("publican/syn.kindNames", strData kNb) :: _) p4 := h4
  refine ⟨?_, ?_, ?_⟩
  · have hv : W.var? Tryz.prog "publican/lex.signs" = some (sgl.map fun z => Value.string (tx z)).toArray := by
      obtain ⟨g', t', cs, fuel, p, q, hg', ht', hvar, hd, _, _⟩ := A3
      obtain rfl := Option.some.inj (gTab.symm.trans hg')
      obtain rfl := Option.some.inj (gTabType.symm.trans ht')
      rw [hvar, ← cells_of_strs Tryz.underlying70 Tryz.underlying9 cellsStr cellsTab hd]
    have c : ∀ i, i < 20 → W.cell? ⟨0, i, none⟩ = some (.string (tx (sg i))) := fun i hi => by
      have := World.var?_cell gTab hv i
      rw [this]
      have hi' : i < sgl.length := hi
      unfold sg
      simp [List.getD, hi']
    exact ⟨World.block_lt_of_cell? _ _ (c 0 (by decide)), c⟩
  · have hv : W.var? Tryz.prog "publican/syn.kindNames" = some (kNb.map fun z => Value.string (tx z)).toArray := by
      obtain ⟨g', t', cs, fuel, p, q, hg', ht', hvar, hd, _, _⟩ := A4
      obtain rfl := Option.some.inj (gKin.symm.trans hg')
      obtain rfl := Option.some.inj (gKinType.symm.trans ht')
      rw [hvar, ← cells_of_strs Tryz.underlying111 Tryz.underlying9 cellsStr cellsKin hd]
    have c : ∀ i, i < 7 → W.cell? ⟨1, i, none⟩ = some (.string (kNm i)) := fun i hi => by
      have := World.var?_cell gKin hv i
      rw [this]
      match i, hi with
      | 0, _ => rfl
      | 1, _ => rfl
      | 2, _ => rfl
      | 3, _ => rfl
      | 4, _ => rfl
      | 5, _ => rfl
      | 6, _ => rfl
    exact ⟨World.block_lt_of_cell? _ _ (c 0 (by decide)), c⟩
  · obtain ⟨g', t', cs, fuel, p, q, hg', ht', hvar, hd, _, _⟩ := A2
    obtain rfl := Option.some.inj (gPow.symm.trans hg')
    obtain rfl := Option.some.inj (gPowType.symm.trans ht')
    unfold Lib.TabIs
    rw [hvar, ← Lib.cells_of_tab Tryz.underlying128 Tryz.underlying98 cellsU64 cellsPow hd]
/-- A world for the witness: the tables laid. -/
noncomputable def laidWorld (os : Go.Os) : World :=
  { World.holding Tryz.prog os ⟨#[], #[], []⟩ with heap := ((((((World.holding Tryz.prog os ⟨#[], #[], []⟩).heap.modify 0 fun
      | .cells _ t frozen => .cells (sgl.map fun z => Value.string (tx z)).toArray t frozen
      | o => o).modify 1 fun
      | .cells _ t frozen => .cells (kNl.map fun z => Value.string z).toArray t frozen
      | o => o).modify 3 fun
      | .cells _ t frozen => .cells (Lib.pow10Tab.map fun z => Value.int .u64 z).toArray t frozen
      | o => o).modify 4 fun
      | .cells _ t frozen => .cells (([0, 1, 28, 2, 29, 14, 24, 3, 30, 22, 20, 15, 25, 17, 4, 8, 31, 27, 13, 23, 21, 19, 16, 7, 26, 12, 18, 6, 11, 5, 10, 9] : List Int).map fun z => Value.int .u8 z).toArray t frozen
      | o => o).modify 5 fun
      | .cells _ t frozen => .cells (([0, 1, 56, 2, 57, 49, 28, 3, 61, 58, 42, 50, 38, 29, 17, 4, 62, 47, 59, 36, 45, 43, 51, 22, 53, 39, 33, 30, 24, 18, 12, 5, 63, 55, 48, 27, 60, 41, 37, 16, 46, 35, 44, 21, 52, 32, 23, 11, 54, 26, 40, 15, 34, 20, 31, 10, 25, 14, 19, 9, 13, 8, 7, 6] : List Int).map fun z => Value.int .u8 z).toArray t frozen
      | o => o) }
end Go.Proofs.YtiikdmnmfmfpdaaGreatDoor

