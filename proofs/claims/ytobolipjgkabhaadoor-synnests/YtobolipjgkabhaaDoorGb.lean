/- What a tree is written as, in plain words. The walk over fill. The walk over show. -/
import Derived.Test.YtobolipjgkabhaaDoorSz
import Derived.BigQuiet
import Derived.Deep.LoopGhost
namespace Go.Proofs.YtobolipjgkabhaaDoor
open Go.Shelf Go.RowKit
set_option linter.unusedVariables false
set_option linter.unusedSimpArgs false

/-- A pattern filled: the kids' bytes are given. -/
def fillS (op nm : ByteArray) (kd : Nat) : List UInt8 → List (List UInt8) → List UInt8
  | [], _ => []
  | c :: p, ks =>
    if c = 79 then op.data.toList ++ fillS op nm kd p ks
    else if c = 78 then nm.data.toList ++ fillS op nm kd p ks
    else if c = 75 then (kNm kd).data.toList ++ fillS op nm kd p ks
    else if c = 69 then (match ks with | [] => fillS op nm kd p [] | k :: ks => k ++ fillS op nm kd p ks)
    else c :: fillS op nm kd p ks
def okP (p : ByteArray) (kd m : Nat) : Bool := decide ((m : Int) = Lib.countByte p.data.toList 69) && (!(decide (0 ≤ Lib.indexByte p.data.toList 75)) || (decide (1 ≤ kd) && decide (kd ≤ 6)))
mutual
def shw : Tr → List UInt8
  | .nd op nm kd n a ks =>
    if eqB op ⟨#[115, 116, 97, 116, 117, 116, 101]⟩ then shwL ks
    else if eqB op ⟨#[108, 105, 116]⟩ then litS kd n.toNat
    else if okP (patF op ks.length) kd ks.length then fillS op nm kd (patF op ks.length).data.toList (shwK ks) else []
def shwK : List Tr → List (List UInt8)
  | [] => []
  | t :: ts => shw t :: shwK ts
def shwL : List Tr → List UInt8
  | [] => []
  | t :: ts => shw t ++ [10] ++ shwL ts
end
/-- Trees that show is proved for: literals are plain, and there are no tables in them. -/
inductive Sg : Tr → Prop
  | lit (nm : ByteArray) (kd n a : Nat) (hk : kd = 1 ∧ n ≤ 1 ∨ kd = 2 ∧ n < 9223372036854775808 ∨ kd = 3 ∧ n < 9223372036854775808) : Sg (.nd ⟨#[108, 105, 116]⟩ nm kd (n : Nat) a [])
  | nd (op nm : ByteArray) (kd : Nat) (n : Int) (a : Nat) (ks : List Tr) (h1 : eqB op ⟨#[108, 105, 116]⟩ = false) (h2 : eqB op ⟨#[116, 97, 98, 108, 101]⟩ = false) (hk : ∀ t ∈ ks, Sg t) : Sg (.nd op nm kd n a ks)
theorem t1 : shw (.nd ⟨#[43]⟩ ⟨#[]⟩ 0 0 3 [.nd ⟨#[110, 97, 109, 101]⟩ ⟨#[120]⟩ 0 0 1 [], .nd ⟨#[110, 97, 109, 101]⟩ ⟨#[121]⟩ 0 0 5 []]) = [40, 120, 32, 43, 32, 121, 41] := by decide +kernel
end Go.Proofs.YtobolipjgkabhaaDoor

namespace Go.Proofs.YtobolipjgkabhaaDoor
open Go.Shelf Go.RowKit
set_option linter.unusedVariables false
set_option linter.unusedSimpArgs false

/-- What show writes of a tree. -/
def SC (B : Nat) (t : Tr) : Prop := ∀ (w : World) (l : List UInt8) (v : Value) (sa : Option Addr) (sm sc : Nat), Nd w (fun g => g < B) (.slice sa sm sc) t.kids → Ob w B v l → PT B w → KT w → l.length + (shw t).length ≤ 100000000 →
  Calls Tryd.prog 10 #[v, .agg #[.string t.op, .string t.name, .int .i64 (t.kind : Nat), .int .i64 t.n, .int .i64 (t.pl : Nat), .slice sa sm sc]] w fun e w' => ∃ v', e = .returned v' ∧ Ob w' B v' (l ++ shw t) ∧ Wt B w w'
theorem Nd.wt {w w' : World} {B : Nat} {v : Value} {ts : List Tr} (h : Nd w (fun g => g < B) v ts) (k : Wt B w w') : Nd w' (fun g => g < B) v ts := h.keep fun g s l => ⟨s, k.bl.block g s⟩
theorem KT.wt {w w' : World} {B : Nat} (h : KT w) (k : Wt B w w') (hB : 1 < B) : KT w' := h.keep (k.bl.block _ hB) k.bl.size
theorem qsame2 {P : Program} {f : FuncId} {args : Array Value} {w : World} {n : Nat} {v : Value} (h : ∀ w, Calls P f args w fun e w' => e = .returned v ∧ w' = w) : Calls P f args (w.drewN n) fun e w'' => e = .returned v ∧ ∃ m, w'' = w.drewN m :=
  (h _).mono fun _ _ ⟨he, hm⟩ => ⟨he, n, hm⟩
theorem qkind {w : World} {kd : Nat} (n : Nat) (hk : kd ≤ 1000000) (h : KT w) : Calls Tryd.prog 33 #[.int .i64 (kd : Nat)] (w.drewN n) fun e w'' => e = .returned (.string (kNm kd)) ∧ ∃ m, w'' = w.drewN m :=
  (kindName_any kd _ hk (h.next (drewN_below w n))).mono fun _ _ ⟨he, hm⟩ => ⟨he, n, hm.symm⟩
theorem nn {a b : UInt8} (h : ¬ a = b) : (a.toNat : Int) ≠ (b.toNat : Int) := fun e => h (UInt8.toNat_inj.1 (by omega))
theorem Nd.at_ {w : World} {S : Nat → Prop} {sa : Option Addr} {sm sc : Nat} {ts : List Tr} (h : Nd w S (.slice sa sm sc) ts) (j : Nat) (t : Tr) (e : ts[j]? = some t) : ∃ (g : Nat) (a : Option Addr) (m c : Nat), sa = some ⟨g, 0, none⟩ ∧ sm = ts.length ∧ NC w g (j * 6) t (.slice a m c) ∧ Nd w S (.slice a m c) t.kids := by
  cases h with
  | nil => simp at e
  | row g c ts sl hs h0 hc hk =>
    obtain ⟨a, m, c', q⟩ := (hk j t e).sl
    have h1 := hc j t e
    have h2 := hk j t e
    rw [q] at h1 h2
    exact ⟨g, a, m, c', rfl, rfl, h1, h2⟩
set_option maxRecDepth 100000 in
set_option maxHeartbeats 4000000 in
theorem fill_any (B : Nat) (op nm p : ByteArray) (kd : Nat) (n pl : Int) (ks : List Tr) (sa : Option Addr) (sm sc : Nat) (l : List UInt8) (v : Value) (w : World) (hB : 1 < B) (hp : p.size ≤ 100) (hok : okP p kd ks.length = true) (hkd : kd ≤ 1000000)
    (hS : ∀ t ∈ ks, SC B t) (hN : Nd w (fun g => g < B) (.slice sa sm sc) ks) (h : Ob w B v l) (hT : PT B w) (hK : KT w) (hl : l.length + (fillS op nm kd p.data.toList (shwK ks)).length ≤ 100000000) :
    Calls Tryd.prog 20 #[v, .agg #[.string op, .string nm, .int .i64 (kd : Nat), .int .i64 n, .int .i64 pl, .slice sa sm sc], .string p] w fun e w' => ∃ v', e = .returned v' ∧ Ob w' B v' (l ++ fillS op nm kd p.data.toList (shwK ks)) ∧ Wt B w w' := by
  have hs := h.ba
  have ml : sm = ks.length := by cases hN <;> rfl
  have B0 := hid (show Below w.heap.size w (w.alloc (.cells #[.string op, .string nm, .int .i64 (kd : Nat), .int .i64 n, .int .i64 pl, .slice sa sm sc] 26)) from (Below.refl _ _).alloc (Nat.le_refl _) _)
  have OB := hid (h.next B0.out)
  have BB := hid (Wt.of hs B0.out)
  have TH := hid (hT.on BB.out.bl)
  have KH := hid (hK.next B0.out)
  have NH := hid (hN.wt BB.out)
  have SH := hid hS
  have HX := hid (show (w.alloc (.cells #[.string op, .string nm, .int .i64 (kd : Nat), .int .i64 n, .int .i64 pl, .slice sa sm sc] 26)).heap[w.heap.size]? = some (.cells #[.string op, .string nm, .int .i64 (kd : Nat), .int .i64 n, .int .i64 pl, .slice sa sm sc] 26) from heap_alloc_new w _)
  obtain ⟨c0, c1, c2, c3, c4, c5, cz⟩ := B6.new w 26 (.string op) (.string nm) (.int .i64 (kd : Nat)) (.int .i64 n) (.int .i64 pl) (.slice sa sm sc)
  unfold okP at hok
  rw [Bool.and_eq_true] at hok
  obtain ⟨ok1, ok2⟩ := hok
  have ok1 := of_decide_eq_true ok1
  have CE := hid (fun w => (show Calls Tryd.prog 39 #[.string p, .string ⟨#[69]⟩] w (fun e w' => e = .returned (.int .i64 (ks.length : Nat)) ∧ w' = w) from by have := Any.strings_Count_one laysC p 69 w; rw [← ok1] at this; exact this))
  obtain ⟨kb, hkb⟩ : ∃ kb, decide (0 ≤ Lib.indexByte p.data.toList 75) = kb := ⟨_, rfl⟩
  have CK := hid (fun w => (show Calls Tryd.prog 40 #[.string p, .string ⟨#[75]⟩] w (fun e w' => e = .returned (.bool kb) ∧ w' = w) from by have := Any.strings_Contains_one laysT p 75 w; rw [hkb] at this; exact this))
  rw [hkb] at ok2
  have CN := hid (show (p.data.toList.count 69 : Nat) = ks.length from by have : ((ks.length : Nat) : Int) = Lib.countByte p.data.toList 69 := ok1; unfold Lib.countByte at this; omega)
  have ksl : ks.length ≤ 100 := by
    have := CN.out
    have : p.data.toList.count 69 ≤ p.data.toList.length := List.count_le_length
    have e : p.data.toList.length = p.size := by simp
    omega
  obtain ⟨F, hF⟩ : ∃ F, fillS op nm kd p.data.toList (shwK ks) = F := ⟨_, rfl⟩
  rw [hF] at hl ⊢
  have FH := hid hF
  clear h hT hN hK hS B0 hF ok1 hkb
  subst ml
  go_enter Tryd.func20, Tryd.ntmps20
  go_upto_region 1 with fail
  generalize World.alloc w _ = w1 at *
  have KN := hid (fun n => qkind n hkd KH.out)
  obtain ⟨T, hTT⟩ : ∃ T, kNm kd = T := ⟨_, rfl⟩
  have TE := hid hTT
  rw [hTT] at KN
  have UE : kb = true → (T.toList == []) = false := fun z => by
    rw [z] at ok2
    have ok2 : (decide (1 ≤ kd) && decide (kd ≤ 6)) = true := by simpa using ok2
    rw [Bool.and_eq_true] at ok2
    have a1 := of_decide_eq_true ok2.1
    have a2 := of_decide_eq_true ok2.2
    rw [← hTT, eqL]
    have key : ∀ i : Fin 7, 1 ≤ i.val → eqB (kNm i.val) ⟨#[]⟩ = false := by decide
    exact key ⟨kd, by omega⟩ a1
  clear hTT
  have QR : ∃ nq, True := ⟨0, trivial⟩
  go_cut [25] from 10 to 25 (fun sx wx => sx = .bool false ∧ Hid (∃ nq, wx = w1.drewN nq))
  case first =>
    cases kb with
    | false =>
      go_quiet (first | (go_at_call 39; with_reducible exact qsame2 CE.out) | (go_at_call 40; with_reducible exact qsame2 CK.out))
      go_wp2
      go_meet
      exact ⟨rfl, _, rfl⟩
    | true =>
      have ue := UE rfl
      go_quiet (first | (go_at_call 39; with_reducible exact qsame2 CE.out) | (go_at_call 40; with_reducible exact qsame2 CK.out) | (go_at_call 33; with_reducible exact KN.out _))
      go_wp2
      go_meet
      exact ⟨rfl, _, rfl⟩
  case rest =>
    obtain ⟨rfl, ⟨nq, hwx⟩⟩ := hcut
    have W0 := hid (Wt.of OB.out.ba (show Below w1.heap.size w1 wc from by rw [hwx]; exact drewN_below w1 nq))
    have OC := hid (OB.out.next (show Below w1.heap.size w1 wc from by rw [hwx]; exact drewN_below w1 nq))
    clear hwx
    go_upto_region 5 with fail
    go_loopg [0, 7, 29] (p.size + 1) (fun g bv nv iv wr => ∃ (i j : Nat) (ld : List UInt8) (b0 : Value), b0 = bv ∧ i ≤ p.size ∧ g = p.size + 1 - i ∧ nv = .int .i64 (j : Nat) ∧ iv = .int .i64 (i : Nat) ∧ Hid (Ob wr B bv (l ++ ld)) ∧ Hid (Wt B w1 wr) ∧ Hid (ld ++ fillS op nm kd (tl p i) (shwK (ks.drop j)) = F ∧ j + (tl p i).count 69 = ks.length))
    case atStart => exact ⟨0, 0, [], _, rfl, Nat.zero_le _, rfl, rfl, rfl, by rw [List.append_nil]; exact OC, W0, FH.out, by have := CN.out; rw [Nat.zero_add]; exact this⟩
    case round =>
      clear OC W0 OB FH CN CE CK
      obtain ⟨i, j, ld, bv, rfl, hi, rfl, rfl, rfl, OW, WW, EH⟩ := hrel
      have HXr := hid (box_wt HX.out WW.out)
      have cc : ∀ k x, (#[.string op, .string nm, .int .i64 (kd : Nat), .int .i64 n, .int .i64 pl, .slice sa ks.length sc] : Array Value)[k]? = some x → wr.cell? ⟨w.heap.size, k, none⟩ = some x := fun k x e => by simp [World.cell?, HXr.out, e]
      have e0 := cc 0 _ rfl
      have e1 := cc 1 _ rfl
      have e2 := cc 2 _ rfl
      have e3 := cc 3 _ rfl
      have e4 := cc 4 _ rfl
      have e5 := cc 5 _ rfl
      clear cc
      by_cases q : i < p.size
      · have q' : (i : Int) < (p.size : Int) := by omega
        have pl100 : (p.size : Int) ≤ 100 := by omega
        have xi := congrArg (fun c : UInt8 => (c.toNat : Int)) (bt_at q)
        by_cases y1 : bt p i = 79
        · have y := y1
          have HE := hid (show (ld ++ op.data.toList) ++ fillS op nm kd (tl p (i + 1)) (shwK (ks.drop j)) = F from by rw [← EH.out.1, tl_cons q, y, List.append_assoc]; rfl)
          have HC := hid (show j + (tl p (i + 1)).count 69 = ks.length from by have := EH.out.2; rw [tl_cons q, y] at this; simpa using this)
          have lF : ld.length + op.size ≤ F.length := by have := congrArg List.length HE.out; simp only [List.length_append] at this; have e : op.data.toList.length = op.size := (by simp); omega
          rw [y] at xi
          clear y
          go_wp2_with (at_builtin; refine wpList_addS rfl (.tmp 42) (.tmp 44) rfl B bv (l ++ ld) op rfl OW.out rfl (by rw [List.length_append]; omega) ?_; intro v2 w2 o2 b2; have O2 := hid (show Ob w2 B v2 (l ++ (ld ++ op.data.toList)) from by rw [← List.append_assoc]; exact o2); have W2 := hid (WW.out.trans b2); clear o2 b2)
          go_roundg (p.size + 1 - (i + 1))
          case measure => omega
          case rel => exact ⟨i + 1, j, ld ++ op.data.toList, _, rfl, by omega, rfl, rfl, by rw [Int.natCast_add]; rfl, O2, W2, HE.out, HC.out⟩

        · by_cases y2 : bt p i = 78
          · have y := y2
            have HE := hid (show (ld ++ nm.data.toList) ++ fillS op nm kd (tl p (i + 1)) (shwK (ks.drop j)) = F from by rw [← EH.out.1, tl_cons q, y, List.append_assoc]; rfl)
            have HC := hid (show j + (tl p (i + 1)).count 69 = ks.length from by have := EH.out.2; rw [tl_cons q, y] at this; simpa using this)
            have lF : ld.length + nm.size ≤ F.length := by have := congrArg List.length HE.out; simp only [List.length_append] at this; have e : nm.data.toList.length = nm.size := (by simp); omega
            rw [y] at xi
            clear y
            go_wp2_with (at_builtin; refine wpList_addS rfl (.tmp 48) (.tmp 50) rfl B bv (l ++ ld) nm rfl OW.out rfl (by rw [List.length_append]; omega) ?_; intro v2 w2 o2 b2; have O2 := hid (show Ob w2 B v2 (l ++ (ld ++ nm.data.toList)) from by rw [← List.append_assoc]; exact o2); have W2 := hid (WW.out.trans b2); clear o2 b2)
            go_roundg (p.size + 1 - (i + 1))
            case measure => omega
            case rel => exact ⟨i + 1, j, ld ++ nm.data.toList, _, rfl, by omega, rfl, rfl, by rw [Int.natCast_add]; rfl, O2, W2, HE.out, HC.out⟩

          · by_cases y3 : bt p i = 75
            · have y := y3
              have HE := hid (show (ld ++ T.data.toList) ++ fillS op nm kd (tl p (i + 1)) (shwK (ks.drop j)) = F from by rw [← EH.out.1, tl_cons q, y, List.append_assoc, ← TE.out]; rfl)
              have HC := hid (show j + (tl p (i + 1)).count 69 = ks.length from by have := EH.out.2; rw [tl_cons q, y] at this; simpa using this)
              have lF : ld.length + T.size ≤ F.length := by have := congrArg List.length HE.out; simp only [List.length_append] at this; have e : T.data.toList.length = T.size := (by simp); omega
              rw [y] at xi
              clear y
              have KN2 := hid (kindName_any kd wr hkd (KH.out.wt WW.out hB))
              rw [TE.out] at KN2
              go_wp2_with (first | (go_at_call 33; with_reducible refine Calls.mono KN2.out ?_; rintro e w5 ⟨rfl, rfl⟩) | (at_builtin; refine wpList_addS rfl (.tmp 54) (.tmp 57) rfl B bv (l ++ ld) T rfl OW.out rfl (by rw [List.length_append]; omega) ?_; intro v2 w2 o2 b2; have O2 := hid (show Ob w2 B v2 (l ++ (ld ++ T.data.toList)) from by rw [← List.append_assoc]; exact o2); have W2 := hid (WW.out.trans b2); clear o2 b2))
              go_roundg (p.size + 1 - (i + 1))
              case measure => omega
              case rel => exact ⟨i + 1, j, ld ++ T.data.toList, _, rfl, by omega, rfl, rfl, by rw [Int.natCast_add]; rfl, O2, W2, HE.out, HC.out⟩

            · by_cases y4 : bt p i = 69
              · have y := y4
                obtain ⟨t, ht⟩ : ∃ t, ks[j]? = some t := ⟨_, List.getElem?_eq_getElem (by have := EH.out.2; rw [tl_cons q, y] at this; simp at this; omega)⟩
                have DR := hid (show shwK (ks.drop j) = shw t :: shwK (ks.drop (j + 1)) from by rw [List.drop_eq_getElem_cons (List.getElem?_eq_some_iff.1 ht).1, (List.getElem?_eq_some_iff.1 ht).2]; rfl)
                have HE := hid (show (ld ++ shw t) ++ fillS op nm kd (tl p (i + 1)) (shwK (ks.drop (j + 1))) = F from by rw [← EH.out.1, tl_cons q, y, DR.out, List.append_assoc]; rfl)
                have HC := hid (show (j + 1) + (tl p (i + 1)).count 69 = ks.length from by have := EH.out.2; rw [tl_cons q, y] at this; simp at this; omega)
                have lF : ld.length + (shw t).length ≤ F.length := by have := congrArg List.length HE.out; simp only [List.length_append] at this; omega
                obtain ⟨gk, ka, km, kc, rfl, _, nc, nd⟩ := (NH.out.wt WW.out).at_ j t ht
                have SK := hid (SH.out t (List.mem_of_getElem? ht) wr (l ++ ld) bv ka km kc nd OW.out (TH.out.on WW.out.bl) (KH.out.wt WW.out hB) (by rw [List.length_append]; omega))
                obtain ⟨k0, k1, k2, k3, k4, k5⟩ := nc
                have jl : (j : Int) < (ks.length : Int) := by have := (List.getElem?_eq_some_iff.1 ht).1; omega
                have jl2 : (j : Int) ≤ 100 := by omega
                clear nd ht
                rw [y] at xi
                clear y
                go_wp2_with (go_at_call 10; with_reducible refine Calls.mono SK.out ?_; rintro e w2 ⟨v2, rfl, o2, b2⟩; have O2 := hid (show Ob w2 B v2 (l ++ (ld ++ shw t)) from by rw [← List.append_assoc]; exact o2); have W2 := hid (WW.out.trans b2); clear o2 b2)
                go_roundg (p.size + 1 - (i + 1))
                case measure => omega
                case rel => exact ⟨i + 1, j + 1, ld ++ shw t, _, rfl, by omega, rfl, rfl, by rw [Int.natCast_add]; rfl, O2, W2, HE.out, HC.out⟩

              · skip
                have HE := hid (show (ld ++ [bt p i]) ++ fillS op nm kd (tl p (i + 1)) (shwK (ks.drop j)) = F from by rw [← EH.out.1, tl_cons q, List.append_assoc]; simp only [fillS]; rw [if_neg y1, if_neg y2, if_neg y3, if_neg y4]; rfl)
                have HC := hid (show j + (tl p (i + 1)).count 69 = ks.length from by have := EH.out.2; rw [tl_cons q, List.count_cons_of_ne y4] at this; exact this)
                have lF : ld.length ≤ F.length := by have := congrArg List.length HE.out; simp only [List.length_append] at this; omega
                have i1 : ((bt p i).toNat : Int) ≠ 79 := nn y1
                have i2 : ((bt p i).toNat : Int) ≠ 78 := nn y2
                have i3 : ((bt p i).toNat : Int) ≠ 75 := nn y3
                have i4 : ((bt p i).toNat : Int) ≠ 69 := nn y4
                clear y1 y2 y3 y4
                generalize hch : bt p i = ch at *
                have HS8 := hid (show Below wr.heap.size wr (wr.alloc (.cells #[.int .u8 ch.toNat] 5)) from (Below.refl _ _).alloc (Nat.le_refl _) _)
                have O8 := hid (OW.out.next HS8.out)
                have W8 := hid (WW.out.next OW.out.ba HS8.out)
                have c8 : (wr.alloc (.cells #[.int .u8 ch.toNat] 5)).cell? ⟨wr.heap.size, 0, none⟩ = some (.int .u8 ch.toNat) := by simp
                go_wp2_with (at_builtin; refine wpList_addC rfl (.tmp 36) (.tmp 38) rfl B bv (l ++ ld) ch rfl O8.out wr.heap.size rfl c8 (by rw [List.length_append]; omega) ?_; intro v2 w2 o2 b2; have O2 := hid (show Ob w2 B v2 (l ++ (ld ++ [ch])) from by rw [← List.append_assoc]; exact o2); have W2 := hid (W8.out.trans b2); clear o2 b2)
                go_roundg (p.size + 1 - (i + 1))
                case measure => omega
                case rel => exact ⟨i + 1, j, ld ++ [ch], _, rfl, by omega, rfl, rfl, by rw [Int.natCast_add]; rfl, O2, W2, HE.out, HC.out⟩

      · have q' : ¬ (i : Int) < (p.size : Int) := by omega
        have HE := hid (show ld = F from by rw [← EH.out.1, tl_nil (by omega)]; simp [fillS])
        go_wp2_with fail
        go_ret
        exact ⟨bv, rfl, by rw [← HE.out]; exact OW.out, BB.out.trans WW.out⟩
end Go.Proofs.YtobolipjgkabhaaDoor

namespace Go.Proofs.YtobolipjgkabhaaDoor
open Go.Shelf Go.RowKit
set_option linter.unusedVariables false
set_option linter.unusedSimpArgs false

theorem patF_size (op : ByteArray) (m : Nat) : (patF op m).size ≤ 100 := by
  have key : ∀ (c : Prop) [Decidable c] (a b : ByteArray), a.size ≤ 100 → b.size ≤ 100 → (if c then a else b).size ≤ 100 := by
    intro c _ a b ha hb
    by_cases h : c
    · rw [if_pos h]; exact ha
    · rw [if_neg h]; exact hb
  unfold patF
  repeat' (first | refine key _ _ _ ?_ ?_ | decide)
theorem box_cells {w : World} {g : Nat} {v0 v1 v2 v3 v4 v5 : Value} {t : TypeId} {fz : Nat × Nat} (h : w.heap[g]? = some (.cells #[v0, v1, v2, v3, v4, v5] t fz)) : w.cell? ⟨g, 0, none⟩ = some v0 ∧ w.cell? ⟨g, 1, none⟩ = some v1 ∧ w.cell? ⟨g, 2, none⟩ = some v2 ∧ w.cell? ⟨g, 3, none⟩ = some v3 ∧ w.cell? ⟨g, 4, none⟩ = some v4 ∧ w.cell? ⟨g, 5, none⟩ = some v5 :=
  ⟨by simp [World.cell?, h], by simp [World.cell?, h], by simp [World.cell?, h], by simp [World.cell?, h], by simp [World.cell?, h], by simp [World.cell?, h]⟩
set_option maxRecDepth 100000 in
set_option maxHeartbeats 2000000 in
theorem show_nd (B : Nat) (op nm : ByteArray) (kd : Nat) (n : Int) (pl : Nat) (ks : List Tr) (hB : 1 < B) (hst : eqB op ⟨#[115, 116, 97, 116, 117, 116, 101]⟩ = false) (hli : eqB op ⟨#[108, 105, 116]⟩ = false) (hta : eqB op ⟨#[116, 97, 98, 108, 101]⟩ = false) (hok : okP (patF op ks.length) kd ks.length = true) (hkd : kd ≤ 1000000) (hS : ∀ t ∈ ks, SC B t) : SC B (.nd op nm kd n pl ks) := by
  intro w l v sa sm sc hN h hT hK hl
  simp only [Tr.op, Tr.name, Tr.kind, Tr.n, Tr.pl, Tr.kids] at hN hl ⊢
  have hs := h.ba
  have B0 := hid (show Below w.heap.size w (w.alloc (.cells #[.string op, .string nm, .int .i64 (kd : Nat), .int .i64 n, .int .i64 (pl : Nat), .slice sa sm sc] 26)) from (Below.refl _ _).alloc (Nat.le_refl _) _)
  have OB := hid (h.next B0.out)
  have BB := hid (Wt.of hs B0.out)
  have TH := hid (hT.on BB.out.bl)
  have KH := hid (hK.next B0.out)
  have NH := hid (hN.wt BB.out)
  have HX := hid (show (w.alloc (.cells #[.string op, .string nm, .int .i64 (kd : Nat), .int .i64 n, .int .i64 (pl : Nat), .slice sa sm sc] 26)).heap[w.heap.size]? = some (.cells #[.string op, .string nm, .int .i64 (kd : Nat), .int .i64 n, .int .i64 (pl : Nat), .slice sa sm sc] 26) from heap_alloc_new w _)
  obtain ⟨c0, c1, c2, c3, c4, c5, cz⟩ := B6.new w 26 (.string op) (.string nm) (.int .i64 (kd : Nat)) (.int .i64 n) (.int .i64 (pl : Nat)) (.slice sa sm sc)
  have ml : sm = ks.length := by cases hN <;> rfl
  have FE := hid (show l ++ shw (.nd op nm kd n pl ks) = l ++ fillS op nm kd (patF op sm).data.toList (shwK ks) from by unfold shw; rw [if_neg (by rw [hst]; decide), if_neg (by rw [hli]; decide), if_pos hok, ml])
  have LH : l.length + (fillS op nm kd (patF op sm).data.toList (shwK ks)).length ≤ 100000000 := by have := congrArg List.length FE.out; rw [List.length_append, List.length_append] at this; omega
  have OKH : okP (patF op sm) kd ks.length = true := by rw [ml]; exact hok
  have SH := hid hS
  have ust : (op.toList == [115, 116, 97, 116, 117, 116, 101]) = false := (eqL op _).trans hst
  have uta : (op.toList == [116, 97, 98, 108, 101]) = false := (eqL op _).trans hta
  have uli : (op.toList == [108, 105, 116]) = false := (eqL op _).trans hli
  clear h hT hN hK hS B0 hl hok ml
  go_enter Tryd.func10, Tryd.ntmps10
  go_upto_region 1 with fail
  generalize World.alloc w _ = w1 at *
  go_upto_region 13 with fail
  refine wp_region_held_drew (S := (fun W => W.cell? ⟨w.heap.size, 0, none⟩ = some (.string op) ∧ W.cell? ⟨w.heap.size, 1, none⟩ = some (.string nm) ∧ W.cell? ⟨w.heap.size, 2, none⟩ = some (.int .i64 (kd : Nat)) ∧ W.cell? ⟨w.heap.size, 3, none⟩ = some (.int .i64 n) ∧ W.cell? ⟨w.heap.size, 4, none⟩ = some (.int .i64 (pl : Nat)) ∧ W.cell? ⟨w.heap.size, 5, none⟩ = some (.slice sa sm sc))) (by kernel_rfl) ⟨c0, c1, c2, c3, c4, c5⟩ (fun hHeld => ?_)
  have O0 := hid (show Ob w1.drew B v l from OB.out.next (Below.refl _ _).drew)
  have W0 := hid (show Wt B w w1.drew from BB.out.next OB.out.ba (Below.refl _ _).drew)
  have D0 := hid (show Wt B w1 w1.drew from Wt.of OB.out.ba (Below.refl _ _).drew)
  have H0 := hid (show w1.drew.heap[w.heap.size]? = _ from HX.out)
  generalize w1.drew = wz at *
  refine take2 rfl (i := 0) (v := v) (d := 35) rfl rfl (by kernel_rfl) (by kernel_rfl) (by kernel_rfl) (fun _ _ _ h => h) (Or.inl ⟨by rfl, ?_⟩) hHeld ?_
  · (intro W hW; (try dsimp only at hW); go_simp)
  try simp only [Act.put, List.setIfInBounds_toArray, List.set_cons_zero, List.set_cons_succ]
  refine take2 rfl (i := 1) (v := .agg #[.string op, .string nm, .int .i64 (kd : Nat), .int .i64 n, .int .i64 (pl : Nat), .slice sa sm sc]) (d := 36) rfl rfl (by kernel_rfl) (by kernel_rfl) (by kernel_rfl) (fun _ _ _ h => h) (Or.inl ⟨by rfl, ?_⟩) hHeld ?_
  · (intro W hW; (try dsimp only at hW); go_simp)
  try simp only [Act.put, List.setIfInBounds_toArray, List.set_cons_zero, List.set_cons_succ]
  refine take2 rfl (i := 2) (v := .agg #[.string op, .string nm, .int .i64 (kd : Nat), .int .i64 n, .int .i64 (pl : Nat), .slice sa sm sc]) (d := 37) rfl rfl (by kernel_rfl) (by kernel_rfl) (by kernel_rfl) (fun _ _ _ h => h) (Or.inl ⟨by rfl, ?_⟩) hHeld ?_
  · (intro W hW; (try dsimp only at hW); go_simp)
  try simp only [Act.put, List.setIfInBounds_toArray, List.set_cons_zero, List.set_cons_succ]
  refine wpAnyH_ready (rs := [3]) (by kernel_rfl) (by simp) ?_
  refine cons2 rfl rfl (fun K9 hK => ?_)
  go_simp
  go_at_call 21
  refine Calls.mono (pattern_any op nm (kd : Nat) n (pl : Nat) sa sm sc wz) ?_
  rintro e w5 ⟨rfl, b5⟩
  have O5 := hid (O0.out.next b5)
  have D5 := hid (D0.out.next O0.out.ba b5)
  have W5 := hid (W0.out.next O0.out.ba b5)
  have H5 := hid ((b5.block _ (Array.getElem?_eq_some_iff.1 H0.out).1).trans H0.out)
  clear b5
  go_wp2_with fail
  refine hK.out _ _ (box_cells H5.out) (fun hX => ?_)
  clear hK K9 hHeld
  have hHeld := hX
  clear hX
  try simp only [Act.put, List.setIfInBounds_toArray, List.set_cons_zero, List.set_cons_succ]
  refine wpAnyH_ready (rs := [4]) (by kernel_rfl) (by simp) ?_
  refine cons2 rfl rfl (fun K9 hK => ?_)
  go_simp
  go_at_call 20
  refine Calls.mono (fill_any B op nm (patF op sm) kd n (pl : Nat) ks sa sm sc l v w5 hB (patF_size op sm) OKH hkd SH.out (NH.out.wt D5.out) O5.out (TH.out.on D5.out.bl) (KH.out.wt D5.out hB) LH) ?_
  rintro e w6 ⟨v6, rfl, o6, b6⟩
  have O6 := hid o6
  have W6 := hid (W5.out.trans b6)
  have H6 := hid (box_wt H5.out b6)
  clear o6 b6
  go_wp2_with fail
  refine hK.out _ _ (box_cells H6.out) (fun hX => ?_)
  clear hK K9 hHeld
  have hHeld := hX
  clear hX
  try simp only [Act.put, List.setIfInBounds_toArray, List.set_cons_zero, List.set_cons_succ]
  refine take2 rfl (i := 5) (v := v6) (d := 4) rfl rfl (by kernel_rfl) (by kernel_rfl) (by kernel_rfl) (fun _ _ _ h => h) (Or.inl ⟨by rfl, ?_⟩) hHeld ?_
  · (intro W hW; (try dsimp only at hW); go_simp)
  try simp only [Act.put, List.setIfInBounds_toArray, List.set_cons_zero, List.set_cons_succ]
  refine wpAnyH_done (by kernel_rfl) ?_ _
  go_wp2
  go_ret
  exact ⟨v6, rfl, by rw [FE.out]; exact O6.out, W6.out⟩

theorem litS_of {kd n : Nat} {nm : ByteArray} {pl : Nat} : shw (.nd ⟨#[108, 105, 116]⟩ nm kd (n : Nat) pl []) = litS kd n := by
  unfold shw
  rw [if_neg (by decide), if_pos (by decide)]
  rfl
set_option maxRecDepth 100000 in
set_option maxHeartbeats 2000000 in
theorem show_lit (B : Nat) (nm : ByteArray) (kd n pl : Nat) (hk : kd = 1 ∧ n ≤ 1 ∨ kd = 2 ∧ n < 9223372036854775808 ∨ kd = 3 ∧ n < 9223372036854775808) : SC B (.nd ⟨#[108, 105, 116]⟩ nm kd (n : Nat) pl []) := by
  intro w l v sa sm sc hN h hT hK hl
  rw [litS_of] at hl ⊢
  simp only [Tr.op, Tr.name, Tr.kind, Tr.n, Tr.pl, Tr.kids] at hN hl ⊢
  obtain ⟨rfl, rfl, rfl⟩ : sa = none ∧ sm = 0 ∧ sc = 0 := by
    cases hN with
    | nil => exact ⟨rfl, rfl, rfl⟩
    | row g c ts sl hs h0 hc hk => exact absurd rfl h0
  have hs := h.ba
  have B0 := hid (show Below w.heap.size w (w.alloc (.cells #[.string ⟨#[108, 105, 116]⟩, .string nm, .int .i64 (kd : Nat), .int .i64 (n : Nat), .int .i64 (pl : Nat), .slice none 0 0] 26)) from (Below.refl _ _).alloc (Nat.le_refl _) _)
  have OB := hid (h.next B0.out)
  have BB := hid (Wt.of hs B0.out)
  have HC := hid (show Calls Tryd.prog 19 #[v, .agg #[.string ⟨#[108, 105, 116]⟩, .string nm, .int .i64 (kd : Nat), .int .i64 (n : Nat), .int .i64 (pl : Nat), .slice none 0 0]] (w.alloc (.cells #[.string ⟨#[108, 105, 116]⟩, .string nm, .int .i64 (kd : Nat), .int .i64 (n : Nat), .int .i64 (pl : Nat), .slice none 0 0] 26)) (fun e w' => ∃ v', e = .returned v' ∧ Ob w' B v' (l ++ litS kd n) ∧ Wt B (w.alloc (.cells #[.string ⟨#[108, 105, 116]⟩, .string nm, .int .i64 (kd : Nat), .int .i64 (n : Nat), .int .i64 (pl : Nat), .slice none 0 0] 26)) w') from by
    rcases hk with ⟨rfl, a⟩ | ⟨rfl, a⟩ | ⟨rfl, a⟩
    · exact showLit_bool B n nm (pl : Nat) l v _ a OB.out (by omega) (hT.on BB.out.bl)
    · exact showLit_count B n nm (pl : Nat) l v _ a OB.out (by omega) (hT.on BB.out.bl)
    · exact showLit_money B n nm (pl : Nat) l v _ a OB.out (by omega) (hT.on BB.out.bl))
  obtain ⟨c0, c1, c2, c3, c4, c5, cz⟩ := B6.new w 26 (.string ⟨#[108, 105, 116]⟩) (.string nm) (.int .i64 (kd : Nat)) (.int .i64 (n : Nat)) (.int .i64 (pl : Nat)) (.slice none 0 0)
  clear h hT hN hK B0 hl hk
  generalize litS kd n = LS at *
  go_enter Tryd.func10, Tryd.ntmps10
  go_upto_region 1 with fail
  generalize World.alloc w _ = w1 at *
  go_wp2_with (go_at_call 19; with_reducible refine Calls.mono HC.out ?_; rintro e w2 ⟨v2, rfl, o2, b2⟩)
  go_ret
  exact ⟨v2, rfl, o2, BB.out.trans b2⟩
set_option maxRecDepth 100000 in
set_option maxHeartbeats 2000000 in
theorem show_stat (B : Nat) (nm : ByteArray) (kd : Nat) (n : Int) (pl : Nat) (ks : List Tr) (hB : 1 < B) (hk : ks.length ≤ 100000) (hS : ∀ t ∈ ks, SC B t) : SC B (.nd ⟨#[115, 116, 97, 116, 117, 116, 101]⟩ nm kd n pl ks) := by
  intro w l v sa sm sc hN h hT hK hl
  simp only [Tr.op, Tr.name, Tr.kind, Tr.n, Tr.pl, Tr.kids] at hN hl ⊢
  have hs := h.ba
  have B0 := hid (show Below w.heap.size w (w.alloc (.cells #[.string ⟨#[115, 116, 97, 116, 117, 116, 101]⟩, .string nm, .int .i64 (kd : Nat), .int .i64 n, .int .i64 (pl : Nat), .slice sa sm sc] 26)) from (Below.refl _ _).alloc (Nat.le_refl _) _)
  have OB := hid (h.next B0.out)
  have BB := hid (Wt.of hs B0.out)
  have TH := hid (hT.on BB.out.bl)
  have KH := hid (hK.next B0.out)
  have NH := hid (hN.wt BB.out)
  have HX := hid (show (w.alloc (.cells #[.string ⟨#[115, 116, 97, 116, 117, 116, 101]⟩, .string nm, .int .i64 (kd : Nat), .int .i64 n, .int .i64 (pl : Nat), .slice sa sm sc] 26)).heap[w.heap.size]? = some (.cells #[.string ⟨#[115, 116, 97, 116, 117, 116, 101]⟩, .string nm, .int .i64 (kd : Nat), .int .i64 n, .int .i64 (pl : Nat), .slice sa sm sc] 26) from heap_alloc_new w _)
  obtain ⟨c0, c1, c2, c3, c4, c5, cz⟩ := B6.new w 26 (.string ⟨#[115, 116, 97, 116, 117, 116, 101]⟩) (.string nm) (.int .i64 (kd : Nat)) (.int .i64 n) (.int .i64 (pl : Nat)) (.slice sa sm sc)
  have ml : sm = ks.length := by cases hN <;> rfl
  subst ml
  obtain ⟨F, hF⟩ : ∃ F, shw (.nd ⟨#[115, 116, 97, 116, 117, 116, 101]⟩ nm kd n pl ks) = F := ⟨_, rfl⟩
  have FE := hid (show shwL ks = F from by rw [← hF]; unfold shw; rw [if_pos (by decide)])
  rw [hF] at hl ⊢
  have SH := hid hS
  clear h hT hN hK B0 hS hF
  go_enter Tryd.func10, Tryd.ntmps10
  go_upto_region 1 with fail
  generalize World.alloc w _ = w1 at *
  go_upto_region 4 with fail
  go_loopg [0, 14] (ks.length + 1) (fun g bv iv wr => ∃ (i : Nat) (ld : List UInt8) (b0 : Value), b0 = bv ∧ i ≤ ks.length ∧ g = ks.length + 1 - i ∧ iv = .int .i64 (i : Nat) ∧ Hid (Ob wr B bv (l ++ ld)) ∧ Hid (Wt B w1 wr) ∧ Hid (ld ++ shwL (ks.drop i) = F))
  case atStart => exact ⟨0, [], _, rfl, Nat.zero_le _, rfl, rfl, by rw [List.append_nil]; exact OB, Wt.refl _ _, FE⟩
  case round =>
    clear FE OB c0 c1 c2 c3 c4 c5 cz
    obtain ⟨i, ld, bv, rfl, hi, rfl, rfl, OW, WW, EH⟩ := hrel
    by_cases q : i < ks.length
    · have q' : (i : Int) < (ks.length : Int) := by omega
      have ll : (ks.length : Int) ≤ 100000 := by omega
      obtain ⟨t, ht⟩ : ∃ t, ks[i]? = some t := ⟨_, List.getElem?_eq_getElem q⟩
      have HE := hid (show (ld ++ shw t ++ [10]) ++ shwL (ks.drop (i + 1)) = F from by rw [← EH.out, List.drop_eq_getElem_cons q, (List.getElem?_eq_some_iff.1 ht).2]; simp [shwL])
      have lF : ld.length + (shw t).length ≤ F.length := by have := congrArg List.length HE.out; simp only [List.length_append] at this; omega
      obtain ⟨gk, ka, km, kc, rfl, _, nc, nd⟩ := (NH.out.wt WW.out).at_ i t ht
      obtain ⟨k0, k1, k2, k3, k4, k5⟩ := nc
      have HS8 := hid (show Below wr.heap.size wr (wr.alloc (.cells #[.string t.op, .string t.name, .int .i64 (t.kind : Nat), .int .i64 t.n, .int .i64 (t.pl : Nat), .slice ka km kc] 26)) from (Below.refl _ _).alloc (Nat.le_refl _) _)
      have O8 := hid (OW.out.next HS8.out)
      have W8 := hid (WW.out.next OW.out.ba HS8.out)
      have N8 := hid (nd.wt (Wt.of OW.out.ba HS8.out))
      obtain ⟨b0, b1, b2, b3, b4, b5, bz⟩ := B6.new wr 26 (.string t.op) (.string t.name) (.int .i64 (t.kind : Nat)) (.int .i64 t.n) (.int .i64 (t.pl : Nat)) (.slice ka km kc)
      have SK := hid (SH.out t (List.mem_of_getElem? ht) _ (l ++ ld) bv ka km kc N8.out O8.out (TH.out.on W8.out.bl) (KH.out.wt W8.out hB) (by rw [List.length_append]; omega))
      clear nd ht HS8 N8
      go_upto_region 6 with fail
      generalize World.alloc wr _ = w2 at *
      clear k0 k1 k2 k3 k4 k5
      go_wp2_with (first | (go_at_call 10; with_reducible refine Calls.mono SK.out ?_; rintro e w3 ⟨v3, rfl, o3, x3⟩; have O3 := hid (o3.next (show Below w3.heap.size w3 (w3.alloc (.cells #[.int .u8 10] 5)) from (Below.refl _ _).alloc (Nat.le_refl _) _)); have W3 := hid ((W8.out.trans x3).next o3.ba (show Below w3.heap.size w3 (w3.alloc (.cells #[.int .u8 10] 5)) from (Below.refl _ _).alloc (Nat.le_refl _) _)); have c8 : (w3.alloc (.cells #[.int .u8 10] 5)).cell? ⟨w3.heap.size, 0, none⟩ = some (.int .u8 (10 : UInt8).toNat) := by simp) | (at_builtin; refine wpList_addC rfl (.tmp 20) (.tmp 21) rfl B v3 (l ++ ld ++ shw t) 10 rfl O3.out w3.heap.size rfl c8 (by rw [List.length_append, List.length_append]; omega) ?_; intro v4 w4 o4 x4; have O4 := hid (show Ob w4 B v4 (l ++ (ld ++ shw t ++ [10])) from by rw [← List.append_assoc, ← List.append_assoc]; exact o4); have W4 := hid (W3.out.trans x4); clear o4 x4))
      go_roundg (ks.length + 1 - (i + 1))
      case measure => omega
      case rel => exact ⟨i + 1, ld ++ shw t ++ [10], _, rfl, by omega, rfl, by rw [Int.natCast_add]; rfl, O4, W4, HE⟩
    · have q' : ¬ (i : Int) < (ks.length : Int) := by omega
      have HE := hid (show ld = F from by rw [← EH.out, List.drop_eq_nil_of_le (by omega)]; simp [shwL])
      go_wp2_with fail
      go_ret
      exact ⟨bv, rfl, by rw [← HE.out]; exact OW.out, BB.out.trans WW.out⟩
end Go.Proofs.YtobolipjgkabhaaDoor

