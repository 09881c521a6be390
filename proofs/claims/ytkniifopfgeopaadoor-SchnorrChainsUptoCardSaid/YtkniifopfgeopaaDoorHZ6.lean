/-
  schnorr.pairOf: the two numbers of a signature.
  The document's Sign.
-/
import Derived.Test.YtkniifopfgeopaaDoorHSchSign
import Derived.Test.YtkniifopfgeopaaDoorHZ1
namespace Go.Proofs.YtkniifopfgeopaaDoor
open Go.RowKit
set_option linter.unusedVariables false

theorem infoPair : (Tryd.prog.info? 81).map (·.size) = some 2 := by kernel_rfl
theorem infoP (l : List Int) (h : l.length = 2) : (Tryd.prog.info? 81).map (·.size) = some (ints .u64 l).size := by rw [infoPair]; simp [ints, h]
theorem ret_pair {fn : Func} {R : Ending → World → Prop} {a : Act} {w : World} {p u : Nat} {g : Nat} {l : List Int} {v : Value} (h : fn.results = #[.cell p 81, .tmp u]) (hp : a.tmps.getD p undef = .pointer (some ⟨g, 0, none⟩)) (hu : a.tmps.getD u undef = v) (hd : a.defers = [])
    (hw : Wn .u64 w g 81 l) (hl : l.length = 2) (hR : R (.returned (.tuple #[.agg (ints .u64 l), v])) w) : bodyPost Tryd.prog fn R .ret a w := by
  refine bodyPost_ret (v := .tuple #[.agg (ints .u64 l), v]) ?_ hd hR
  rw [results_cell_tmp h]
  simp only [hp]
  simp [Result.andThen, hu, asAddr, run_loadVar_row w g 81 81 (ints .u64 l) (0, 0) _ hw.heap Tryd.underlying81 rfl (infoP l hl)]
/-- Two numbers and an error. -/
def PairIs (a b E : Int) (w : World) (e : Ending) (w' : World) : Prop := e = .returned (.tuple #[.agg (ints .u64 [a, b]), .int .i64 E]) ∧ Below w.heap.size w w'

set_option maxHeartbeats 800000 in
set_option maxRecDepth 100000 in
theorem pairS_len (p : Option Addr) (n c : Nat) (w : World) (h : n ≠ 16) :
    Calls Tryd.prog 55 #[.slice p n c] w (PairIs 0 0 2 w) := by
  have h2 : ((n : Int) != 16) = true := by simp; omega
  have hw : Wn .u64 (w.alloc (.cells (ints .u64 [0, 0]) 81)) w.heap.size 81 [0, 0] := Wn.new .u64 w _ _ _ rfl
  have HW := hidden (hw.row [0, 0])
  have hw0 := hw.heap
  have HB := hidden (below_setRow ((Below.refl w.heap.size w).alloc (Nat.le_refl _) (.cells (ints .u64 [0, 0]) 81)) (Nat.le_refl _) (ints .u64 [0, 0]))
  have HW0 := hidden hw0
  clear h hw hw0
  go_enter Tryd.func55, Tryd.ntmps55
  go_wp2_with (first
    | (refine wpList_store_row rfl 81 _ _ rfl w.heap.size (ints .u64 [0, 0]) rfl rfl 81 _ HW0.out (infoP _ rfl) rfl (onek .u64 _) ?_)
    | fail)
  exact ret_pair rfl rfl rfl rfl HW.out rfl ⟨rfl, HB.out⟩

/-- What pairOf says of sixteen bytes that hold these numbers. -/
def PairRes (a b : Int) (w : World) (e : Ending) (w' : World) : Prop := if 2305843009213688669 ≤ a ∨ 2305843009213688669 ≤ b then PairIs 0 0 5 w e w' else PairIs a b 0 w e w'
theorem pairRes_no {a b : Int} {w : World} {e : Ending} {w' : World} (h : 2305843009213688669 ≤ a ∨ 2305843009213688669 ≤ b) (k : PairIs 0 0 5 w e w') : PairRes a b w e w' := by unfold PairRes; rw [if_pos h]; exact k
theorem pairRes_yes {a b : Int} {w : World} {e : Ending} {w' : World} (h1 : a < 2305843009213688669) (h2 : b < 2305843009213688669) (k : PairIs a b 0 w e w') : PairRes a b w e w' := by unfold PairRes; rw [if_neg (by omega)]; exact k
def plS (a b : Int) (j : Nat) : List Int := if j = 0 then [0, 0] else if j = 1 then [a, 0] else [a, b]
set_option maxHeartbeats 1600000 in
set_option maxRecDepth 100000 in
theorem pairS_any (p : Option Addr) (c : Nat) (xs : List Int) (w : World) (h : Byt w p 16 c xs) :
    Calls Tryd.prog 55 #[.slice p 16 c] w (PairRes ((num8 xs : Nat) : Int) ((num8 (xs.drop 8) : Nat) : Int) w) := by
  have HN0 := hidden (fun W (hW : Below w.heap.size w W) => numS_any p 16 c xs W (h.below hW) 0 (by omega))
  have HN1 := hidden (fun W (hW : Below w.heap.size w W) => numS_any p 16 c xs W (h.below hW) 8 (by omega))
  rw [List.drop_zero, show ((0 : Nat) : Int) = 0 from rfl] at HN0
  rw [show ((8 : Nat) : Int) = 8 from rfl] at HN1
  generalize ((num8 xs : Nat) : Int) = a at *
  generalize ((num8 (xs.drop 8) : Nat) : Int) = b at *
  clear h
  have hw1 : Wn .u64 (w.alloc (.cells (ints .u64 [0, 0]) 81)) w.heap.size 81 [0, 0] := Wn.new .u64 w _ _ _ rfl
  have HZ := hidden (hw1.alloc (.cells (ints .u64 [0, 0]) 81))
  have hw2 : Wn .u64 ((w.alloc (.cells (ints .u64 [0, 0]) 81)).alloc (.cells (ints .u64 [0, 0]) 81)) (w.heap.size + 1) 81 [0, 0] := Wn.new' .u64 _ _ _ _ rfl _ (by simp)
  have HP := hidden hw2
  have HB := hidden (((Below.refl w.heap.size w).alloc (Nat.le_refl _) (.cells (ints .u64 [0, 0]) 81)).alloc (by simp) (.cells (ints .u64 [0, 0]) 81))
  clear hw1 hw2
  obtain ⟨g, hg⟩ : ∃ g, w.heap.size = g := ⟨_, rfl⟩
  have HG := hidden hg
  go_enter Tryd.func55, Tryd.ntmps55
  go_upto_region 4 with fail
  generalize hwa : World.alloc (World.alloc w _) _ = w2
  have HZ2 : Hid (Wn .u64 w2 g 81 [0, 0]) := by rw [← hwa, ← hg]; exact HZ
  have HP2 : Hid (Wn .u64 w2 (g + 1) 81 [0, 0]) := by rw [← hwa, ← hg]; exact HP
  have HB2 : Hid (Below g w w2) := by rw [← hwa, ← hg]; exact HB
  clear hwa HZ HP HB hg
  have H0 : Is (plS a b 0) [0, 0] := ⟨rfl⟩
  have H1 : Is (plS a b 1) [a, 0] := ⟨rfl⟩
  have H2 : Is (plS a b 2) [a, b] := ⟨rfl⟩
  generalize plS a b = L at *
  go_wp2
  go_loopw [10] (fun i wr => ∃ j : Nat, j ≤ 2 ∧ i = .int .i64 j ∧ Wn .u64 wr (g + 1) 81 (L j) ∧ Wn .u64 wr g 81 [0, 0] ∧ Hid (0 < j → a < 2305843009213688669) ∧ Hid (1 < j → b < 2305843009213688669) ∧ Below g w wr) (fun i _ => 2 - (intOf i).toNat)
  case atStart => exact ⟨0, by omega, rfl, by rw [H0.eq]; exact HP2.out, HZ2.out, hidden (fun h => absurd h (by omega)), hidden (fun h => absurd h (by omega)), HB2.out⟩
  case round =>
    obtain ⟨j, hj, rfl, hp, hz, hja, hjb, hb⟩ := hrel
    have HB := hidden hb
    have HZ := hidden hz
    clear HB2 HZ2 HP2
    have h3 : j = 0 ∨ j = 1 ∨ j = 2 := by omega
    rcases h3 with rfl | rfl | rfl
    · rw [H0.eq] at hp
      have HNX := hidden (HN0.out wr (by rw [HG.out]; exact hb))
      have c0 := hp.cell 0 (by decide)
      have f0 := hp.fr 0
      have HPS := hidden (hp.set 0 a)
      have HBS := hidden (hb.setCell (p := ⟨g + 1, 0, none⟩) (by simp) (.int .u64 a))
      have HZS := hidden (hz.other ⟨g + 1, 0, none⟩ (.int .u64 a) (by simp))
      clear hp hz hb hja hjb HB HZ
      by_cases ha : a < 2305843009213688669
      · have ha' : ¬ (2305843009213688669 : Int) ≤ a := by omega
        have HA := hidden ha
        clear ha
        go_wp2_with (first
          | (go_at_call 48; (with_reducible refine (HNX.out).mono ?_); rintro en w5 ⟨rfl, rfl⟩)
          | fail)
        clear ha' c0 f0
        go_roundw
        case rel => exact ⟨1, by omega, by go_num, by rw [H1.eq]; exact HPS.out, HZS.out, hidden (fun _ => HA.out), hidden (fun h => absurd h (by omega)), HBS.out⟩
        case measure => simp [intOf]
      · have ha' : (2305843009213688669 : Int) ≤ a := by omega
        have HCND := hidden (Or.inl (by omega) : 2305843009213688669 ≤ a ∨ 2305843009213688669 ≤ b)
        clear ha
        go_wp2_with (first
          | (go_at_call 48; (with_reducible refine (HNX.out).mono ?_); rintro en w5 ⟨rfl, rfl⟩)
          | (refine wpList_store_row rfl 81 _ _ rfl g (ints .u64 [0, 0]) rfl rfl 81 _ HZS.out.heap (infoP _ rfl) rfl (onek .u64 _) ?_)
          | fail)
        exact ret_pair rfl rfl rfl rfl (HZS.out.row [0, 0]) rfl (pairRes_no HCND.out ⟨rfl, by rw [HG.out]; exact below_setRow HBS.out (Nat.le_refl _) _⟩)
    · rw [H1.eq] at hp
      have HNX := hidden (HN1.out wr (by rw [HG.out]; exact hb))
      have c0 := hp.cell 1 (show 1 < 2 by decide)
      have f0 := hp.fr 1
      have HPS := hidden (hp.set 1 b)
      have HBS := hidden (hb.setCell (p := ⟨g + 1, 1, none⟩) (by simp) (.int .u64 b))
      have HZS := hidden (hz.other ⟨g + 1, 1, none⟩ (.int .u64 b) (by simp))
      have HA := hidden (hja.out (by omega))
      clear hp hz hb hja hjb HB HZ
      by_cases hbq : b < 2305843009213688669
      · have ha' : ¬ (2305843009213688669 : Int) ≤ b := by omega
        have HBQ := hidden hbq
        clear hbq
        go_wp2_with (first
          | (go_at_call 48; (with_reducible refine (HNX.out).mono ?_); rintro en w5 ⟨rfl, rfl⟩)
          | fail)
        clear ha' c0 f0
        go_roundw
        case rel => exact ⟨2, by omega, by go_num, by rw [H2.eq]; exact HPS.out, HZS.out, hidden (fun _ => HA.out), hidden (fun _ => HBQ.out), HBS.out⟩
        case measure => simp [intOf]
      · have ha' : (2305843009213688669 : Int) ≤ b := by omega
        have HCND := hidden (Or.inr (by omega) : 2305843009213688669 ≤ a ∨ 2305843009213688669 ≤ b)
        clear hbq
        go_wp2_with (first
          | (go_at_call 48; (with_reducible refine (HNX.out).mono ?_); rintro en w5 ⟨rfl, rfl⟩)
          | (refine wpList_store_row rfl 81 _ _ rfl g (ints .u64 [0, 0]) rfl rfl 81 _ HZS.out.heap (infoP _ rfl) rfl (onek .u64 _) ?_)
          | fail)
        exact ret_pair rfl rfl rfl rfl (HZS.out.row [0, 0]) rfl (pairRes_no HCND.out ⟨rfl, by rw [HG.out]; exact below_setRow HBS.out (Nat.le_refl _) _⟩)
    · rw [H2.eq] at hp
      have HA := hidden (hja.out (by omega))
      have HB9 := hidden (hjb.out (by omega))
      have HP := hidden hp
      clear hp hz hb hja hjb
      go_wp2_with (first
        | (refine wpList_load_row rfl 81 _ rfl (g + 1) rfl 81 _ (0, 0) _ HP.out.heap Tryd.underlying81 rfl (infoP _ rfl) ?_)
        | (refine wpList_store_row rfl 81 _ _ rfl g (ints .u64 [a, b]) rfl rfl 81 _ HZ.out.heap (infoP _ rfl) rfl (onek .u64 _) ?_)
        | fail)
      exact ret_pair rfl rfl rfl rfl (HZ.out.row [a, b]) rfl (pairRes_yes HA.out HB9.out ⟨rfl, by rw [HG.out]; exact below_setRow HB.out (Nat.le_refl _) _⟩)
end Go.Proofs.YtkniifopfgeopaaDoor

namespace Go.Proofs.YtkniifopfgeopaaDoor
open Go.RowKit
set_option linter.unusedVariables false

set_option maxHeartbeats 800000 in
set_option maxRecDepth 100000 in
theorem rgbytes_own (a : Nat) (ha : a < 18446744073709551616) (w : World) : Calls Tryd.prog 46 #[.int .u64 a] w (BytesNew w (gbytes a)) := by
  have HP := hidden (fun W => rput_yes none 0 0 [] W (Byt.nil _ _ _ (Nat.zero_le _)) (by omega) (a : Int) (by omega) 8 (by omega) (by omega))
  rw [List.nil_append, show be 8 (a : Int) = gbytes a from rfl, show ((8 : Nat) : Int) = 8 from rfl] at HP
  generalize gbytes a = R at *
  go_enter Tryd.func46, Tryd.ntmps46
  go_wp2_with (first
    | (go_at_call 45; (with_reducible refine (HP.out _).mono ?_); rintro en w2 ⟨v, rfl, ho, hb⟩; have HB := hidden hb; have HO := hidden ho; clear ho hb)
    | fail)
  go_ret
  exact ⟨_, rfl, HO.out, HB.out⟩

set_option maxHeartbeats 1600000 in
set_option maxRecDepth 100000 in
theorem rsignS_bod (x : Nat) (hx : x < 18446744073709551616) (p : Option Addr) (n c : Nat) (m : List Int) (w : World) (h : Byt w p n c m) (hn : n ≤ 100000) :
    Calls Tryd.prog 39 #[.int .u64 x, .slice p n c] w fun en w' => ∃ p' N c', en = .returned (.tuple #[.slice p' N c', .int .i64 (pubE x)]) ∧ Bod w' w.heap.size p' N c' (sigL x m) ∧ Below w.heap.size w w' := by
  have HP := hidden (rpub_any x hx w)
  unfold sigL
  cases hg : gsec x with
  | false =>
    have hE : pubE x = 13 := by unfold pubE; rw [if_neg (by rw [hg]; decide)]
    rw [if_neg (by decide), hE]
    rw [hE] at HP
    generalize ((pubV x : Nat) : Int) = y at *
    clear h hg hE
    go_enter Tryd.func39, Tryd.ntmps39
    go_wp2_with (first
      | (go_at_call 7; (with_reducible refine (HP.out).mono ?_); rintro en w2 ⟨rfl, hb⟩; have HB := hidden hb; clear hb)
      | fail)
    go_ret2
    exact ⟨none, 0, 0, rfl, Bod.nil _ _ _ _ (Nat.zero_le _), HB.out⟩
  | true =>
    obtain ⟨i0, hi, hz0, hz1, hz2⟩ := info_parts Tryd.infoByte
    have hE : pubE x = 0 := by unfold pubE; rw [if_pos hg]
    rw [if_pos rfl, hE]
    rw [hE] at HP
    have HM := hidden (fun W (hW : Below w.heap.size w W) => h.below hW)
    have hgb := gp_big
    have hqb := gq_big
    have HGB := hidden (fun W => rgbytes_any x hx W)
    have HL := Is.mk (gbytes_len x)
    have HHM := hidden (fun (q : Option Addr) (d : Nat) W (hW : Byt W q 8 d (gbytes x)) (hb : Below w.heap.size w W) => rhmac_any q p 8 d n c (gbytes x) m W hW (by omega) (HM.out W hb) (by omega))
    have HHL := Is.mk (hmacS_len (gbytes x) m)
    have HHR := hidden (hmacS_rng (gbytes x) m)
    have HKS : Is (1 + num8 (hmacS (gbytes x) m) % (gq - 1)) (kS x m) := ⟨rfl⟩
    have hes := eS_lt x m
    have hss := sS_lt x m
    have hks := kS_lt x m
    have hyl := pubV_lt x
    have hrl := gpow_lt 4 (kS x m)
    have HSS : Is ((kS x m + eS x m * x) % gq) (sS x m) := ⟨rfl⟩
    have HCH := hidden (fun W (hb : Below w.heap.size w W) => rchalS_any (gpow 4 (kS x m)) (pubV x) (by omega) (by omega) p n c m W (HM.out W hb) hn)
    have HCE : Is (chal (gpow 4 (kS x m)) (pubV x) m) (eS x m) := ⟨rfl⟩
    rw [HCE.eq] at HCH
    have HPW := hidden (fun W => rgpow_any 4 (kS x m) (by decide) (by omega) W)
    rw [cast4] at HPW
    have HAN := hidden (fun W => mulq_any (eS x m) x (by omega) hx W)
    have hsum : (((kS x m : Nat) : Int) + ((eS x m * x % gq : Nat) : Int)) % 2305843009213688669 = ((sS x m : Nat) : Int) := by
      rw [← HSS.eq, ← Nat.add_mod_mod]
      unfold gq
      omega
    have hb0 : eS x m * x % gq < gq := Nat.mod_lt _ gq_pos
    have HG1 := hidden (fun W => rgbytes_own (eS x m) (by omega) W)
    have HG2 := hidden (fun W => rgbytes_own (sS x m) (by omega) W)
    have HL1 := Is.mk (gbytes_len (eS x m))
    have HL2 := Is.mk (gbytes_len (sS x m))
    have HR2 := hidden (gbytes_rng (sS x m))
    have HR12 := hidden (rng_append (gbytes_rng (eS x m)) (gbytes_rng (sS x m)))
    have hgq : gq = 2305843009213688669 := rfl
    have hks2 : kS x m < 2305843009213688669 := by omega
    generalize gbytes (eS x m) = R1 at *
    generalize gbytes (sS x m) = R2 at *
    generalize gpow 4 (kS x m) = r at *
    generalize hmacS (gbytes x) m = D at *
    generalize gbytes x = A at *
    generalize eS x m * x % gq = ex at *
    have hb1 : ex < 2305843009213688669 := hb0
    generalize kS x m = k at *
    generalize eS x m = e at *
    generalize sS x m = s at *
    generalize pubV x = y at *
    have HNM := hidden (fun (q : Option Addr) (d : Nat) W (hW : Byt W q 32 d D) => firstS_any q 32 d D W hW (by omega))
    have hk1 := modq1_int (num8 D)
    have hkk : (1 : Int) + ((num8 D : Nat) : Int) % 2305843009213688668 = (k : Int) := by rw [hk1, ← HKS.eq]; omega
    have hV0 : (0 : Int) ≤ ((num8 D : Nat) : Int) := by omega
    have hV1 : ((num8 D : Nat) : Int) < 18446744073709551616 := by have := (num8_int D HHR.out).2; omega
    generalize ((num8 D : Nat) : Int) = V at *
    rw [← hsum] at HG2
    clear h hg hE hgb hqb hes hss hks hyl hrl hk1 HKS HSS HCE hsum hgq hb0
    go_enter Tryd.func39, Tryd.ntmps39
    go_upto_region 5 with (first
      | (go_at_call 7; (with_reducible refine (HP.out).mono ?_); rintro en w2 ⟨rfl, hb⟩; have HB2 := hidden hb; clear hb)
      | (go_at_call 46; (with_reducible refine (HGB.out _).mono ?_); rintro en w3 ⟨p1, N1, c1, rfl, hy1, hb1⟩; have hN1 := hy1.len; rw [HL.eq] at hN1; subst hN1; have HB3 := hidden (HB2.out.trans (hb1.mono HB2.out.size)); have HHX := hidden (HHM.out p1 c1 w3 hy1 HB3.out); clear hy1 hb1)
      | (go_at_call 65; (with_reducible refine (HHX.out).mono ?_); rintro en w4 ⟨v4, rfl, ho4, hb4⟩; obtain ⟨p4, c4, rfl, hy4⟩ := ho4.bytN rfl HHL.eq HHR.out; have HB4 := hidden (HB3.out.trans (hb4.mono HB3.out.size)); have HNX := hidden (HNM.out p4 c4 w4 hy4); clear ho4 hb4 hy4 HHX)
      | (go_at_call 60; (with_reducible refine (HNX.out).mono ?_); rintro en w5 ⟨rfl, rfl⟩)
      | fail)
    clear HNX HNM HHM hkk hV0 hV1 HGB
    go_upto_region 6 with (first
      | (go_at_call 31; (with_reducible refine (HPW.out _).mono ?_); rintro en w6 ⟨rfl, hb⟩; have HB6 := hidden (HB4.out.trans (hb.mono HB4.out.size)); have HCX := hidden (HCH.out w6 HB6.out); clear hb)
      | (go_at_call 61; (with_reducible refine (HCX.out).mono ?_); rintro en w7 ⟨rfl, hb⟩; have HB7 := hidden (HB6.out.trans (hb.mono HB6.out.size)); clear hb)
      | fail)
    go_upto_region 7 with (first
      | (go_at_call 66; (with_reducible refine (HAN.out _).mono ?_); rintro en w8 ⟨rfl, hb⟩; have HB8 := hidden (HB7.out.trans (hb.mono HB7.out.size)); clear hb)
      | fail)
    clear hb1 hks2
    go_wp2_with (first
      | (go_at_call 46; (with_reducible refine (HG1.out _).mono ?_); rintro en w9 ⟨v9, rfl, ho9, hb9⟩; have HO9 := hidden ho9; have HB9 := hidden (HB8.out.trans (hb9.mono HB8.out.size)); have hz9 := hb9.size; clear ho9 hb9 HG1)
      | (go_at_call 46; (with_reducible refine (HG2.out _).mono ?_); rintro en w10 ⟨v10, rfl, ho10, hb10⟩; obtain ⟨q10, c10, rfl, hy10⟩ := ho10.bytN rfl HL2.eq HR2.out; have HY10 := hidden hy10; have HO10 := hidden (HO9.out.below hb10); have HB10 := hidden (HB9.out.trans (hb10.mono HB9.out.size)); have hz10 := hb10.size; clear ho10 hb10 hy10 HG2)
      | (at_builtin; refine wpList_append_byt _ rfl _ _ 22 rfl _ 5 i0 (.int .u8 0) Tryd.underlying22 hi hz0 hz1 hz2 rfl _ _ rfl HO10.out _ _ _ _ _ rfl HY10.out rfl (by rw [HL1.eq]; omega) ?bb ?_; case bb => omega)
      | fail)
    intro v11 w11 ho11 hg11
    obtain ⟨q11, c11, rfl, hy11⟩ := ho11.bod rfl HR12.out
    have HY11 := hidden (hy11.mono HB8.out.size)
    have HB11 := hidden (HB10.out.grown hg11 HB10.out.size (fun k hk => by have h1 := (HO10.out.lt k hk).1; have h2 := HB8.out.size; omega))
    clear ho11 hg11 hy11
    go_wp2
    go_ret2
    exact ⟨_, _, _, rfl, HY11.out, HB11.out⟩
end Go.Proofs.YtkniifopfgeopaaDoor
