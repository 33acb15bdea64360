/- The walk over fill. -/
import Derived.Test.YtobolipjgkabhaaDoorQa
import Derived.BigQuiet
import Derived.Deep.LoopGhost
namespace Go.Proofs.YtobolipjgkabhaaDoor
open Go.Shelf Go.RowKit
set_option linter.unusedVariables false
set_option linter.unusedSimpArgs false

/-- What show writes of a tree. -/
def SC (B : Nat) (t : Tr) : Prop := ∀ (w : World) (l : List UInt8) (v : Value) (sa : Option Addr) (sm sc : Nat), Nd w (fun g => g < B) (.slice sa sm sc) t.kids → Ob w B v l → PT B w → KT w → l.length + (shw t).length ≤ 100000000 →
  Calls Tryd.prog 10 #[v, .agg #[.string t.op, .string t.name, .int .i64 (t.kind : Nat), .int .i64 t.n, .int .i64 (t.pl : Nat), .slice sa sm sc]] w fun e w' => ∃ v', e = .returned v' ∧ Ob w' B v' (l ++ shw t) ∧ Wt B w w'
theorem Nd.wt {w w' : World} {B : Nat} {v : Value} {ts : List Tr} (h : Nd w (fun g => g < B) v ts) (k : Wt B w w') : Nd w' (fun g => g < B) v ts := h.keep fun g s l => ⟨s, k.bl.block g s⟩
theorem KT.wt {w w' : World} {B : Nat} (h : KT w) (k : Wt B w w') (hB : 1 < B) : KT w' := h.keep (k.bl.block _ hB) k.bl.size
theorem qsame2 {P : Program} {f : FuncId} {args : Array Value} {w : World} {n : Nat} {v : Value} (h : ∀ w, Calls P f args w fun e w' => e = .returned v ∧ w' = w) : Calls P f args (w.drewN n) fun e w'' => e = .returned v ∧ ∃ m, w'' = w.drewN m :=
  (h _).mono fun _ _ ⟨he, hm⟩ => ⟨he, n, hm⟩
theorem qkind {w : World} {kd : Nat} (n : Nat) (hk : kd ≤ 1000000) (h : KT w) : Calls Tryd.prog 33 #[.int .i64 (kd : Nat)] (w.drewN n) fun e w'' => e = .returned (.string (kNm kd)) ∧ ∃ m, w'' = w.drewN m :=
  (kindName_any kd _ hk (h.next (drewN_below w n))).mono fun _ _ ⟨he, hm⟩ => ⟨he, n, hm.symm⟩
theorem nn {a b : UInt8} (h : ¬ a = b) : (a.toNat : Int) ≠ (b.toNat : Int) := fun e => h (UInt8.toNat_inj.1 (by omega))
theorem Nd.at_ {w : World} {S : Nat → Prop} {sa : Option Addr} {sm sc : Nat} {ts : List Tr} (h : Nd w S (.slice sa sm sc) ts) (j : Nat) (t : Tr) (e : ts[j]? = some t) : ∃ (g : Nat) (a : Option Addr) (m c : Nat), sa = some ⟨g, 0, none⟩ ∧ sm = ts.length ∧ NC w g (j * 6) t (.slice a m c) ∧ Nd w S (.slice a m c) t.kids := by
  cases h with
  | nil => simp at e
  | row g c ts sl hs h0 hc hk =>
    obtain ⟨a, m, c', q⟩ := (hk j t e).sl
    have h1 := hc j t e
    have h2 := hk j t e
    rw [q] at h1 h2
    exact ⟨g, a, m, c', rfl, rfl, h1, h2⟩
set_option maxRecDepth 100000 in
set_option maxHeartbeats 4000000 in
theorem fill_any (B : Nat) (op nm p : ByteArray) (kd : Nat) (n pl : Int) (ks : List Tr) (sa : Option Addr) (sm sc : Nat) (l : List UInt8) (v : Value) (w : World) (hB : 1 < B) (hp : p.size ≤ 100) (hok : okP p kd ks.length = true) (hkd : kd ≤ 1000000)
    (hS : ∀ t ∈ ks, SC B t) (hN : Nd w (fun g => g < B) (.slice sa sm sc) ks) (h : Ob w B v l) (hT : PT B w) (hK : KT w) (hl : l.length + (fillS op nm kd p.data.toList (shwK ks)).length ≤ 100000000) :
    Calls Tryd.prog 20 #[v, .agg #[.string op, .string nm, .int .i64 (kd : Nat), .int .i64 n, .int .i64 pl, .slice sa sm sc], .string p] w fun e w' => ∃ v', e = .returned v' ∧ Ob w' B v' (l ++ fillS op nm kd p.data.toList (shwK ks)) ∧ Wt B w w' := by
  have hs := h.ba
  have ml : sm = ks.length := by cases hN <;> rfl
  have B0 := hid (show Below w.heap.size w (w.alloc (.cells #[.string op, .string nm, .int .i64 (kd : Nat), .int .i64 n, .int .i64 pl, .slice sa sm sc] 26)) from (Below.refl _ _).alloc (Nat.le_refl _) _)
  have OB := hid (h.next B0.out)
  have BB := hid (Wt.of hs B0.out)
  have TH := hid (hT.on BB.out.bl)
  have KH := hid (hK.next B0.out)
  have NH := hid (hN.wt BB.out)
  have SH := hid hS
  have HX := hid (show (w.alloc (.cells #[.string op, .string nm, .int .i64 (kd : Nat), .int .i64 n, .int .i64 pl, .slice sa sm sc] 26)).heap[w.heap.size]? = some (.cells #[.string op, .string nm, .int .i64 (kd : Nat), .int .i64 n, .int .i64 pl, .slice sa sm sc] 26) from heap_alloc_new w _)
  obtain ⟨c0, c1, c2, c3, c4, c5, cz⟩ := B6.new w 26 (.string op) (.string nm) (.int .i64 (kd : Nat)) (.int .i64 n) (.int .i64 pl) (.slice sa sm sc)
  unfold okP at hok
  rw [Bool.and_eq_true] at hok
  obtain ⟨ok1, ok2⟩ := hok
  have ok1 := of_decide_eq_true ok1
  have CE := hid (fun w => (show Calls Tryd.prog 39 #[.string p, .string ⟨#[69]⟩] w (fun e w' => e = .returned (.int .i64 (ks.length : Nat)) ∧ w' = w) from by have := Any.strings_Count_one laysC p 69 w; rw [← ok1] at this; exact this))
  obtain ⟨kb, hkb⟩ : ∃ kb, decide (0 ≤ Lib.indexByte p.data.toList 75) = kb := ⟨_, rfl⟩
  have CK := hid (fun w => (show Calls Tryd.prog 40 #[.string p, .string ⟨#[75]⟩] w (fun e w' => e = .returned (.bool kb) ∧ w' = w) from by have := Any.strings_Contains_one laysT p 75 w; rw [hkb] at this; exact this))
  rw [hkb] at ok2
  have CN := hid (show (p.data.toList.count 69 : Nat) = ks.length from by have : ((ks.length : Nat) : Int) = Lib.countByte p.data.toList 69 := ok1; unfold Lib.countByte at this; omega)
  have ksl : ks.length ≤ 100 := by
    have := CN.out
    have : p.data.toList.count 69 ≤ p.data.toList.length := List.count_le_length
    have e : p.data.toList.length = p.size := by simp
    omega
  obtain ⟨F, hF⟩ : ∃ F, fillS op nm kd p.data.toList (shwK ks) = F := ⟨_, rfl⟩
  rw [hF] at hl ⊢
  have FH := hid hF
  clear h hT hN hK hS B0 hF ok1 hkb
  subst ml
  go_enter Tryd.func20, Tryd.ntmps20
  go_upto_region 1 with fail
  generalize World.alloc w _ = w1 at *
  have KN := hid (fun n => qkind n hkd KH.out)
  obtain ⟨T, hTT⟩ : ∃ T, kNm kd = T := ⟨_, rfl⟩
  have TE := hid hTT
  rw [hTT] at KN
  have UE : kb = true → (T.toList == []) = false := fun z => by
    rw [z] at ok2
    have ok2 : (decide (1 ≤ kd) && decide (kd ≤ 6)) = true := by simpa using ok2
    rw [Bool.and_eq_true] at ok2
    have a1 := of_decide_eq_true ok2.1
    have a2 := of_decide_eq_true ok2.2
    rw [← hTT, eqL]
    have key : ∀ i : Fin 7, 1 ≤ i.val → eqB (kNm i.val) ⟨#[]⟩ = false := by decide
    exact key ⟨kd, by omega⟩ a1
  clear hTT
  have QR : ∃ nq, True := ⟨0, trivial⟩
  go_cut [25] from 10 to 25 (fun sx wx => sx = .bool false ∧ Hid (∃ nq, wx = w1.drewN nq))
  case first =>
    cases kb with
    | false =>
      go_quiet (first | (go_at_call 39; with_reducible exact qsame2 CE.out) | (go_at_call 40; with_reducible exact qsame2 CK.out))
      go_wp2
      go_meet
      exact ⟨rfl, _, rfl⟩
    | true =>
      have ue := UE rfl
      go_quiet (first | (go_at_call 39; with_reducible exact qsame2 CE.out) | (go_at_call 40; with_reducible exact qsame2 CK.out) | (go_at_call 33; with_reducible exact KN.out _))
      go_wp2
      go_meet
      exact ⟨rfl, _, rfl⟩
  case rest =>
    obtain ⟨rfl, ⟨nq, hwx⟩⟩ := hcut
    have W0 := hid (Wt.of OB.out.ba (show Below w1.heap.size w1 wc from by rw [hwx]; exact drewN_below w1 nq))
    have OC := hid (OB.out.next (show Below w1.heap.size w1 wc from by rw [hwx]; exact drewN_below w1 nq))
    clear hwx
    go_upto_region 5 with fail
    go_loopg [0, 7, 29] (p.size + 1) (fun g bv nv iv wr => ∃ (i j : Nat) (ld : List UInt8) (b0 : Value), b0 = bv ∧ i ≤ p.size ∧ g = p.size + 1 - i ∧ nv = .int .i64 (j : Nat) ∧ iv = .int .i64 (i : Nat) ∧ Hid (Ob wr B bv (l ++ ld)) ∧ Hid (Wt B w1 wr) ∧ Hid (ld ++ fillS op nm kd (tl p i) (shwK (ks.drop j)) = F ∧ j + (tl p i).count 69 = ks.length))
    case atStart => exact ⟨0, 0, [], _, rfl, Nat.zero_le _, rfl, rfl, rfl, by rw [List.append_nil]; exact OC, W0, FH.out, by have := CN.out; rw [Nat.zero_add]; exact this⟩
    case round =>
      clear OC W0 OB FH CN CE CK
      obtain ⟨i, j, ld, bv, rfl, hi, rfl, rfl, rfl, OW, WW, EH⟩ := hrel
      have HXr := hid (box_wt HX.out WW.out)
      have cc : ∀ k x, (#[.string op, .string nm, .int .i64 (kd : Nat), .int .i64 n, .int .i64 pl, .slice sa ks.length sc] : Array Value)[k]? = some x → wr.cell? ⟨w.heap.size, k, none⟩ = some x := fun k x e => by simp [World.cell?, HXr.out, e]
      have e0 := cc 0 _ rfl
      have e1 := cc 1 _ rfl
      have e2 := cc 2 _ rfl
      have e3 := cc 3 _ rfl
      have e4 := cc 4 _ rfl
      have e5 := cc 5 _ rfl
      clear cc
      by_cases q : i < p.size
      · have q' : (i : Int) < (p.size : Int) := by omega
        have pl100 : (p.size : Int) ≤ 100 := by omega
        have xi := congrArg (fun c : UInt8 => (c.toNat : Int)) (bt_at q)
        by_cases y1 : bt p i = 79
        · have y := y1
          have HE := hid (show (ld ++ op.data.toList) ++ fillS op nm kd (tl p (i + 1)) (shwK (ks.drop j)) = F from by rw [← EH.out.1, tl_cons q, y, List.append_assoc]; rfl)
          have HC := hid (show j + (tl p (i + 1)).count 69 = ks.length from by have := EH.out.2; rw [tl_cons q, y] at this; simpa using this)
          have lF : ld.length + op.size ≤ F.length := by have := congrArg List.length HE.out; simp only [List.length_append] at this; have e : op.data.toList.length = op.size := (by simp); omega
          rw [y] at xi
          clear y
          go_wp2_with (at_builtin; refine wpList_addS rfl (.tmp 42) (.tmp 44) rfl B bv (l ++ ld) op rfl OW.out rfl (by rw [List.length_append]; omega) ?_; intro v2 w2 o2 b2; have O2 := hid (show Ob w2 B v2 (l ++ (ld ++ op.data.toList)) from by rw [← List.append_assoc]; exact o2); have W2 := hid (WW.out.trans b2); clear o2 b2)
          go_roundg (p.size + 1 - (i + 1))
          case measure => omega
          case rel => exact ⟨i + 1, j, ld ++ op.data.toList, _, rfl, by omega, rfl, rfl, by rw [Int.natCast_add]; rfl, O2, W2, HE.out, HC.out⟩

        · by_cases y2 : bt p i = 78
          · have y := y2
            have HE := hid (show (ld ++ nm.data.toList) ++ fillS op nm kd (tl p (i + 1)) (shwK (ks.drop j)) = F from by rw [← EH.out.1, tl_cons q, y, List.append_assoc]; rfl)
            have HC := hid (show j + (tl p (i + 1)).count 69 = ks.length from by have := EH.out.2; rw [tl_cons q, y] at this; simpa using this)
            have lF : ld.length + nm.size ≤ F.length := by have := congrArg List.length HE.out; simp only [List.length_append] at this; have e : nm.data.toList.length = nm.size := (by simp); omega
            rw [y] at xi
            clear y
            go_wp2_with (at_builtin; refine wpList_addS rfl (.tmp 48) (.tmp 50) rfl B bv (l ++ ld) nm rfl OW.out rfl (by rw [List.length_append]; omega) ?_; intro v2 w2 o2 b2; have O2 := hid (show Ob w2 B v2 (l ++ (ld ++ nm.data.toList)) from by rw [← List.append_assoc]; exact o2); have W2 := hid (WW.out.trans b2); clear o2 b2)
            go_roundg (p.size + 1 - (i + 1))
            case measure => omega
            case rel => exact ⟨i + 1, j, ld ++ nm.data.toList, _, rfl, by omega, rfl, rfl, by rw [Int.natCast_add]; rfl, O2, W2, HE.out, HC.out⟩

          · by_cases y3 : bt p i = 75
            · have y := y3
              have HE := hid (show (ld ++ T.data.toList) ++ fillS op nm kd (tl p (i + 1)) (shwK (ks.drop j)) = F from by rw [← EH.out.1, tl_cons q, y, List.append_assoc, ← TE.out]; rfl)
              have HC := hid (show j + (tl p (i + 1)).count 69 = ks.length from by have := EH.out.2; rw [tl_cons q, y] at this; simpa using this)
              have lF : ld.length + T.size ≤ F.length := by have := congrArg List.length HE.out; simp only [List.length_append] at this; have e : T.data.toList.length = T.size := (by simp); omega
              rw [y] at xi
              clear y
              have KN2 := hid (kindName_any kd wr hkd (KH.out.wt WW.out hB))
              rw [TE.out] at KN2
              go_wp2_with (first | (go_at_call 33; with_reducible refine Calls.mono KN2.out ?_; rintro e w5 ⟨rfl, rfl⟩) | (at_builtin; refine wpList_addS rfl (.tmp 54) (.tmp 57) rfl B bv (l ++ ld) T rfl OW.out rfl (by rw [List.length_append]; omega) ?_; intro v2 w2 o2 b2; have O2 := hid (show Ob w2 B v2 (l ++ (ld ++ T.data.toList)) from by rw [← List.append_assoc]; exact o2); have W2 := hid (WW.out.trans b2); clear o2 b2))
              go_roundg (p.size + 1 - (i + 1))
              case measure => omega
              case rel => exact ⟨i + 1, j, ld ++ T.data.toList, _, rfl, by omega, rfl, rfl, by rw [Int.natCast_add]; rfl, O2, W2, HE.out, HC.out⟩

            · by_cases y4 : bt p i = 69
              · have y := y4
                obtain ⟨t, ht⟩ : ∃ t, ks[j]? = some t := ⟨_, List.getElem?_eq_getElem (by have := EH.out.2; rw [tl_cons q, y] at this; simp at this; omega)⟩
                have DR := hid (show shwK (ks.drop j) = shw t :: shwK (ks.drop (j + 1)) from by rw [List.drop_eq_getElem_cons (List.getElem?_eq_some_iff.1 ht).1, (List.getElem?_eq_some_iff.1 ht).2]; rfl)
                have HE := hid (show (ld ++ shw t) ++ fillS op nm kd (tl p (i + 1)) (shwK (ks.drop (j + 1))) = F from by rw [← EH.out.1, tl_cons q, y, DR.out, List.append_assoc]; rfl)
                have HC := hid (show (j + 1) + (tl p (i + 1)).count 69 = ks.length from by have := EH.out.2; rw [tl_cons q, y] at this; simp at this; omega)
                have lF : ld.length + (shw t).length ≤ F.length := by have := congrArg List.length HE.out; simp only [List.length_append] at this; omega
                obtain ⟨gk, ka, km, kc, rfl, _, nc, nd⟩ := (NH.out.wt WW.out).at_ j t ht
                have SK := hid (SH.out t (List.mem_of_getElem? ht) wr (l ++ ld) bv ka km kc nd OW.out (TH.out.on WW.out.bl) (KH.out.wt WW.out hB) (by rw [List.length_append]; omega))
                obtain ⟨k0, k1, k2, k3, k4, k5⟩ := nc
                have jl : (j : Int) < (ks.length : Int) := by have := (List.getElem?_eq_some_iff.1 ht).1; omega
                have jl2 : (j : Int) ≤ 100 := by omega
                clear nd ht
                rw [y] at xi
                clear y
                go_wp2_with (go_at_call 10; with_reducible refine Calls.mono SK.out ?_; rintro e w2 ⟨v2, rfl, o2, b2⟩; have O2 := hid (show Ob w2 B v2 (l ++ (ld ++ shw t)) from by rw [← List.append_assoc]; exact o2); have W2 := hid (WW.out.trans b2); clear o2 b2)
                go_roundg (p.size + 1 - (i + 1))
                case measure => omega
                case rel => exact ⟨i + 1, j + 1, ld ++ shw t, _, rfl, by omega, rfl, rfl, by rw [Int.natCast_add]; rfl, O2, W2, HE.out, HC.out⟩

              · skip
                have HE := hid (show (ld ++ [bt p i]) ++ fillS op nm kd (tl p (i + 1)) (shwK (ks.drop j)) = F from by rw [← EH.out.1, tl_cons q, List.append_assoc]; simp only [fillS]; rw [if_neg y1, if_neg y2, if_neg y3, if_neg y4]; rfl)
                have HC := hid (show j + (tl p (i + 1)).count 69 = ks.length from by have := EH.out.2; rw [tl_cons q, List.count_cons_of_ne y4] at this; exact this)
                have lF : ld.length ≤ F.length := by have := congrArg List.length HE.out; simp only [List.length_append] at this; omega
                have i1 : ((bt p i).toNat : Int) ≠ 79 := nn y1
                have i2 : ((bt p i).toNat : Int) ≠ 78 := nn y2
                have i3 : ((bt p i).toNat : Int) ≠ 75 := nn y3
                have i4 : ((bt p i).toNat : Int) ≠ 69 := nn y4
                clear y1 y2 y3 y4
                generalize hch : bt p i = ch at *
                have HS8 := hid (show Below wr.heap.size wr (wr.alloc (.cells #[.int .u8 ch.toNat] 5)) from (Below.refl _ _).alloc (Nat.le_refl _) _)
                have O8 := hid (OW.out.next HS8.out)
                have W8 := hid (WW.out.next OW.out.ba HS8.out)
                have c8 : (wr.alloc (.cells #[.int .u8 ch.toNat] 5)).cell? ⟨wr.heap.size, 0, none⟩ = some (.int .u8 ch.toNat) := by simp
                go_wp2_with (at_builtin; refine wpList_addC rfl (.tmp 36) (.tmp 38) rfl B bv (l ++ ld) ch rfl O8.out wr.heap.size rfl c8 (by rw [List.length_append]; omega) ?_; intro v2 w2 o2 b2; have O2 := hid (show Ob w2 B v2 (l ++ (ld ++ [ch])) from by rw [← List.append_assoc]; exact o2); have W2 := hid (W8.out.trans b2); clear o2 b2)
                go_roundg (p.size + 1 - (i + 1))
                case measure => omega
                case rel => exact ⟨i + 1, j, ld ++ [ch], _, rfl, by omega, rfl, rfl, by rw [Int.natCast_add]; rfl, O2, W2, HE.out, HC.out⟩

      · have q' : ¬ (i : Int) < (p.size : Int) := by omega
        have HE := hid (show ld = F from by rw [← EH.out.1, tl_nil (by omega)]; simp [fillS])
        go_wp2_with fail
        go_ret
        exact ⟨bv, rfl, by rw [← HE.out]; exact OW.out, BB.out.trans WW.out⟩
end Go.Proofs.YtobolipjgkabhaaDoor
