/-
  The document's product.
-/
import Derived.Test.YtilnbmlbahflkaaMRCrvOps
namespace Go.Proofs.Ytilnbmlbahflkaa
open Go.RowKit
set_option linter.unusedVariables false

/-- One product of a column. -/
def mT (A B : List Int) (i j : Nat) : Int := if j ≤ i then A.getD j 0 * B.getD (i - j) 0 else 38 * A.getD j 0 * B.getD (16 + i - j) 0
/-- The sum of the first k products of a column. -/
def mS (A B : List Int) (i : Nat) : Nat → Int
  | 0 => 0
  | k + 1 => mS A B i k + mT A B i k
theorem mS_zero (A B : List Int) (i : Nat) : mS A B i 0 = 0 := rfl
theorem mS_succ (A B : List Int) (i k : Nat) : mS A B i (k + 1) = mS A B i k + mT A B i k := rfl
/-- The columns with their first k products. -/
def colD (A B : List Int) (k : Nat) : List Int := (List.range 16).map fun i => mS A B i k
theorem colD_len (A B : List Int) (k : Nat) : (colD A B k).length = 16 := by simp [colD]
theorem colD_get (A B : List Int) (k i : Nat) (hi : i < 16) : (colD A B k).getD i 0 = mS A B i k := by
  unfold colD
  simp [List.getD_eq_getElem?_getD, hi]
theorem mT_rng {A B : List Int} (hA : Ld 65536 A) (hB : Ld 65536 B) (i j : Nat) (hi : i < 16) (hj : j < 16) : 0 ≤ mT A B i j ∧ mT A B i j ≤ 163208757248 := by
  have ha := hA.get j hj
  unfold mT
  split
  · have hb := hB.get (i - j) (by omega)
    have := Int.mul_nonneg ha.1 hb.1
    have := Int.mul_le_mul (show A.getD j 0 ≤ 65536 by omega) (show B.getD (i - j) 0 ≤ 65536 by omega) hb.1 (by omega)
    omega
  · have hb := hB.get (16 + i - j) (by omega)
    have := Int.mul_nonneg ha.1 hb.1
    have := Int.mul_le_mul (show A.getD j 0 ≤ 65536 by omega) (show B.getD (16 + i - j) 0 ≤ 65536 by omega) hb.1 (by omega)
    rw [Int.mul_assoc]
    omega
theorem mS_rng {A B : List Int} (hA : Ld 65536 A) (hB : Ld 65536 B) (i k : Nat) (hi : i < 16) (hk : k ≤ 16) : 0 ≤ mS A B i k ∧ mS A B i k ≤ 163208757248 * (k : Int) := by
  induction k with
  | zero => exact ⟨Int.le_refl _, by simp [mS]⟩
  | succ k ih =>
    have := ih (by omega)
    have := mT_rng hA hB i k hi (by omega)
    rw [mS_succ]
    omega
theorem colD_ld {A B : List Int} (hA : Ld 65536 A) (hB : Ld 65536 B) : Ld 4611686018427387904 (colD A B 16) := by
  refine ld_of _ _ (colD_len A B 16) fun j hj => ?_
  rw [colD_get A B 16 j hj]
  have := mS_rng hA hB j 16 hj (by omega)
  omega
/-- The digits turned k times. -/
def rotD (B : List Int) (k : Nat) : List Int := (B.drop (16 - k)).map (fun y => y * 38) ++ B.take (16 - k)
theorem rotD_get (B : List Int) (hB : B.length = 16) (k i : Nat) (hk : k ≤ 16) (hi : i < 16) : (rotD B k).getD i 0 = if k ≤ i then B.getD (i - k) 0 else B.getD (16 + i - k) 0 * 38 := by
  unfold rotD
  have hl : ((B.drop (16 - k)).map (fun y => y * 38)).length = k := by simp; omega
  by_cases h : k ≤ i
  · rw [if_pos h, List.getD_eq_getElem?_getD, List.getElem?_append_right (by omega), hl, List.getElem?_take_of_lt (by omega), List.getD_eq_getElem?_getD]
  · rw [if_neg h, List.getD_eq_getElem?_getD, List.getElem?_append_left (by omega)]
    rw [List.getElem?_map, List.getElem?_drop, show 16 - k + i = 16 + i - k by omega, List.getD_eq_getElem?_getD, List.getElem?_eq_getElem (by omega)]
    rfl
theorem rotD_fd (B : List Int) (hB : B.length = 16) (k : Nat) (hk : k ≤ 16) : toK (num B16 (rotD B k)) = toK (B16 ^ k) * fd B := by
  have hl : ((B.drop (16 - k)).map (fun y => y * 38)).length = k := by simp; omega
  have h1 : num B16 B = num B16 (B.take (16 - k)) + B16 ^ (16 - k) * num B16 (B.drop (16 - k)) := by
    have := num_append B16 (B.take (16 - k)) (B.drop (16 - k))
    rw [List.take_append_drop, show (B.take (16 - k)).length = 16 - k by simp; omega] at this
    exact this
  have h2 : num B16 (rotD B k) = num B16 (B.drop (16 - k)) * 38 + B16 ^ k * num B16 (B.take (16 - k)) := by
    unfold rotD
    rw [num_append, hl, num_scale]
  have h3 : B16 ^ k * B16 ^ (16 - k) = 2 * (pN : Int) + 38 := by
    rw [← Int.pow_add, show k + (16 - k) = 16 by omega, pow16, two_p]
  unfold fd
  rw [← toK_mul]
  refine toK_cong (t := 2 * num B16 (B.drop (16 - k))) ?_
  rw [h1, h2]
  generalize num B16 (B.drop (16 - k)) = d
  generalize num B16 (B.take (16 - k)) = t
  generalize B16 ^ k = a at *
  generalize B16 ^ (16 - k) = b at *
  generalize (pN : Int) = p at *
  grind
theorem colD_succ (A B : List Int) (hB : B.length = 16) (k : Nat) (hk : k < 16) : colD A B (k + 1) = addL (colD A B k) ((rotD B k).map (fun y => y * A.getD k 0)) := by
  have hr : (rotD B k).length = 16 := by simp [rotD]; omega
  apply List.ext_getElem?
  intro i
  by_cases hi : i < 16
  · have h1 := colD_get A B (k + 1) i hi
    have h2 := addL_get (colD A B k) ((rotD B k).map (fun y => y * A.getD k 0)) (colD_len A B k) (by simp [hr]) i hi
    have h3 : ((rotD B k).map (fun y => y * A.getD k 0)).getD i 0 = (rotD B k).getD i 0 * A.getD k 0 := by
      simp [List.getD_eq_getElem?_getD, show i < (rotD B k).length by omega]
    rw [colD_get A B k i hi, h3, rotD_get B hB k i (by omega) hi] at h2
    have h4 : (colD A B (k + 1)).getD i 0 = (addL (colD A B k) ((rotD B k).map (fun y => y * A.getD k 0))).getD i 0 := by
      rw [h1, h2, mS_succ]
      congr 1
      unfold mT
      split
      · exact Int.mul_comm _ _
      · grind
    have e1 : i < (colD A B (k + 1)).length := by rw [colD_len]; exact hi
    have e2 : i < (addL (colD A B k) ((rotD B k).map (fun y => y * A.getD k 0))).length := by rw [addL_len, colD_len]; simp [hr]; exact hi
    rw [List.getD_eq_getElem?_getD, List.getD_eq_getElem?_getD, List.getElem?_eq_getElem e1, List.getElem?_eq_getElem e2] at h4
    rw [List.getElem?_eq_getElem e1, List.getElem?_eq_getElem e2]
    exact congrArg some h4
  · rw [List.getElem?_eq_none (by rw [colD_len]; omega), List.getElem?_eq_none (by rw [addL_len, colD_len]; omega)]
theorem colD_fdk (A B : List Int) (hA : A.length = 16) (hB : B.length = 16) (k : Nat) (hk : k ≤ 16) : toK (num B16 (colD A B k)) = toK (num B16 (A.take k)) * fd B := by
  induction k with
  | zero =>
    have h0 : num B16 (colD A B 0) = 0 := by
      have : colD A B 0 = List.replicate 16 0 := rfl
      rw [this]
      decide
    rw [h0, toK_lit0]
    show (0 : K) = toK 0 * fd B
    rw [toK_lit0, Fin.zero_mul]
  | succ k ih =>
    rw [colD_succ A B hB k (by omega), addL_num _ _ _ (by rw [colD_len]; simp [rotD]; omega), num_scale, toK_add, toK_mul, rotD_fd B hB k (by omega), ih (by omega), num_take B16 A k (by omega), toK_add, toK_mul]
    generalize toK (num B16 (A.take k)) = a
    generalize toK (B16 ^ k) = b
    generalize toK (A.getD k 0) = c
    generalize fd B = f
    clear ih
    grind
theorem colD_fd (A B : List Int) (hA : A.length = 16) (hB : B.length = 16) : fd (colD A B 16) = fd A * fd B := by
  have := colD_fdk A B hA hB 16 (Nat.le_refl _)
  rw [List.take_of_length_le (by omega)] at this
  exact this

set_option maxHeartbeats 1600000 in
set_option maxRecDepth 100000 in
theorem rmul_any (A B : List Int) (hA : Ld 65536 A) (hB : Ld 65536 B) (w : World) :
    Calls Try.prog 25 #[.agg (ints .u64 A), .agg (ints .u64 B)] w fun e w' => e = .returned (.agg (ints .u64 (carL (colD A B 16)))) ∧ Below w.heap.size w w' := by
  have hXL := colD_ld hA hB
  have HG := hidden (fun j (hj : j < 16) => colD_get A B 16 j hj)
  have HCAR := hidden (rcarry_any _ hXL)
  have hz16 : (List.replicate 16 (0 : Int)).length = 16 := rfl
  have HM0 := Is.mk (mixL_zero (colD A B 16) (List.replicate 16 0))
  have HML := hidden (fun j => mixL_len (colD A B 16) (List.replicate 16 0) j hXL.len hz16)
  have HMS := hidden (fun j (hj : j < 16) => mixL_succ (colD A B 16) (List.replicate 16 0) j hXL.len hz16 hj)
  have HME := Is.mk (mixL_end (colD A B 16) (List.replicate 16 0) hXL.len hz16)
  have HXA := hidden (fun j hj => hA.get j hj)
  have HXB := hidden (fun j hj => hB.get j hj)
  have HAL := Is.mk hA.len
  have HBL := Is.mk hB.len
  have HIX := hidden (infoD (colD A B 16) hXL.len)
  have HIR := hidden (infoD (carL (colD A B 16)) (rndC_len _))
  have HZR := hidden (zero16 (carL (colD A B 16)) (rndC_len _))
  have HS0 := hidden (fun i => mS_zero A B i)
  have HSS := hidden (fun i j => mS_succ A B i j)
  have HSR := hidden (fun i k (hi : i < 16) hk => mS_rng hA hB i k hi hk)
  have HTR := hidden (fun i k (hi : i < 16) hk => mT_rng hA hB i k hi hk)
  have HT : Hid (∀ i j, mT A B i j = if j ≤ i then A.getD j 0 * B.getD (i - j) 0 else 38 * A.getD j 0 * B.getD (16 + i - j) 0) := hidden (fun _ _ => rfl)
  generalize carL (colD A B 16) = R at *
  generalize colD A B 16 = X at *
  generalize mS A B = S at *
  generalize mT A B = T at *
  clear hA hXL hB hz16
  go_enter Try.func25, Try.ntmps25
  go_upto_region 2 with fail
  generalize hw1 : World.alloc _ (.cells _ 54) = w1
  have hA : Wn .u64 w1 w.heap.size 54 A := by
    rw [← hw1]
    exact (((Wn.new .u64 w 54 A _ rfl).alloc _).alloc _).alloc _
  have hB : Wn .u64 w1 (w.heap.size + 1) 54 B := by
    rw [← hw1]
    exact ((Wn.new' .u64 _ 54 B _ rfl _ (by simp)).alloc _).alloc _
  have hZ : Wn .u64 w1 (w.heap.size + 1 + 1) 54 (List.replicate 16 0) := by
    rw [← hw1]
    exact (Wn.new' .u64 _ 54 (List.replicate 16 0) _ rfl _ (by simp)).alloc _
  have hO : Wn .u64 w1 (w.heap.size + 1 + 1 + 1) 54 (mixL X (List.replicate 16 0) 0) := by
    rw [← hw1, HM0.eq]
    exact Wn.new' .u64 _ 54 (List.replicate 16 0) _ rfl _ (by simp)
  have hb : Below w.heap.size w w1 := by
    rw [← hw1]
    exact ((((Below.refl _ w).alloc (Nat.le_refl _) _).alloc (by simp) _).alloc (by simp; omega) _).alloc (by simp; omega) _
  clear hw1
  obtain ⟨n, hn⟩ : ∃ n, w.heap.size = n := ⟨_, rfl⟩
  simp only [hn] at hA hB hZ hO hb ⊢
  have HN := hidden hn
  have HA0 := hidden hA
  have HBB0 := hidden hB
  have HZ0 := hidden hZ
  have HO0 := hidden hO
  have HB0 := hidden hb
  clear hA hB hZ hO hb hn
  go_wp2
  go_loopw [6] (fun i wr => ∃ r : Nat, r ≤ 16 ∧ i = .int .i64 r ∧ Wn .u64 wr n 54 A ∧ Wn .u64 wr (n + 1) 54 B ∧ Wn .u64 wr (n + 1 + 1) 54 (List.replicate 16 0) ∧ Wn .u64 wr (n + 1 + 1 + 1) 54 (mixL X (List.replicate 16 0) r) ∧ Below n w wr) (fun i _ => 16 - (intOf i).toNat)
  case atStart => exact ⟨0, by omega, rfl, HA0.out, HBB0.out, HZ0.out, HO0.out, HB0.out⟩
  case round =>
    obtain ⟨r, hr, rfl, ha, hbb, hz, ho, hb⟩ := hrel
    have HA := hidden ha
    have HBB := hidden hbb
    have HZ := hidden hz
    have HO := hidden ho
    have HB := hidden hb
    clear ha hbb hz ho hb HA0 HBB0 HZ0 HO0 HB0
    by_cases hlt : r < 16
    · have b0 : (r : Int) < 16 := by omega
      have b1 : (0 : Int) ≤ (r : Int) := by omega
      have HS0r := Is.mk (HS0.out r)
      have hg := HG.out r hlt
      have hms := HMS.out r hlt
      rw [hg] at hms
      have HMS2 := Is.mk hms
      clear hg hms
      go_wp2
      rename World => wo
      go_loopw [7, 8] (fun u i wr => ∃ (j : Nat), j ≤ 16 ∧ i = .int .i64 j ∧ u = .int .u64 (S r j) ∧ Wn .u64 wr n 54 A ∧ Wn .u64 wr (n + 1) 54 B ∧ Wn .u64 wr (n + 1 + 1) 54 (List.replicate 16 0) ∧ Wn .u64 wr (n + 1 + 1 + 1) 54 (mixL X (List.replicate 16 0) r) ∧ Below n w wr) (fun _ i _ => 16 - (intOf i).toNat)
      case atStart => exact ⟨0, by omega, rfl, by rw [HS0r.eq], HA.out, HBB.out, HZ.out, HO.out, HB.out⟩
      case round =>
        clear HA HBB HZ HO HB
        obtain ⟨j, hj, rfl, rfl, ha, hbb, hz, ho, hb⟩ := hrel
        have HA := hidden ha
        have HBB := hidden hbb
        have HZ := hidden hz
        have HO := hidden ho
        have HB := hidden hb
        clear ha hbb hz ho hb
        by_cases hjt : j < 16
        · have hxa := HXA.out j hjt
          have hsr := HSR.out r j hlt (by omega)
          have htr := HTR.out r j hlt hjt
          have ht := HT.out r j
          have HS2 := Is.mk (HSS.out r j)
          have hfx := HA.out.fr j
          have hcx := HA.out.cell j (by rw [HAL.eq]; exact hjt)
          have c0 : (j : Int) < 16 := by omega
          have c1 : (0 : Int) ≤ (j : Int) := by omega
          by_cases hle : j ≤ r
          · have hxb := HXB.out (r - j) (by omega)
            have hfy := HBB.out.fr (r - j)
            have hcy := HBB.out.cell (r - j) (by rw [HBL.eq]; omega)
            rw [if_pos hle] at ht
            rw [ht] at htr HS2
            generalize A.getD j 0 = x at *
            generalize B.getD (r - j) 0 = y at *
            generalize S r j = s at *
            have c2 : (j : Int) ≤ (r : Int) := by omega
            have e1 : IntKind.i64.wrap ((r : Int) - (j : Int)) = (r : Int) - (j : Int) := wraps_i64 _ (by omega) (by omega)
            have e2 : (0 : Int) ≤ (r : Int) - (j : Int) := by omega
            have e3 : (r : Int) - (j : Int) < 16 := by omega
            have e4 : ((r : Int) - (j : Int)).toNat = r - j := by omega
            have wr0 : IntKind.u64.wrap (x * y) = x * y := by rw [IntKind.wrap_u64]; omega
            have wr1 : IntKind.u64.wrap (s + x * y) = s + x * y := by rw [IntKind.wrap_u64]; omega
            go_upto_region 10 with fail
            go_region
            all_goals
              have HA3 := hidden (HA.out.drew)
              have HBB3 := hidden (HBB.out.drew)
              have HZ3 := hidden (HZ.out.drew)
              have HO3 := hidden (HO.out.drew)
              have HB3 := hidden (HB.out.drew)
              clear HA HBB HZ HO HB hcx hfx hcy hfy wr0 wr1 hsr htr ht
              generalize World.drew _ = w5 at *
              go_wp2
              go_roundw
              case rel => exact ⟨j + 1, by omega, by go_num, by rw [HS2.eq], HA3.out, HBB3.out, HZ3.out, HO3.out, HB3.out⟩
              case measure => simp [intOf]; omega
          · have hxb := HXB.out (16 + r - j) (by omega)
            have hfy := HBB.out.fr (16 + r - j)
            have hcy := HBB.out.cell (16 + r - j) (by rw [HBL.eq]; omega)
            rw [if_neg hle] at ht
            rw [ht] at htr HS2
            generalize A.getD j 0 = x at *
            generalize B.getD (16 + r - j) 0 = y at *
            generalize S r j = s at *
            have c2 : ¬ (j : Int) ≤ (r : Int) := by omega
            have e0 : IntKind.i64.wrap (16 + (r : Int)) = 16 + (r : Int) := wraps_i64 _ (by omega) (by omega)
            have e1 : IntKind.i64.wrap (16 + (r : Int) - (j : Int)) = 16 + (r : Int) - (j : Int) := wraps_i64 _ (by omega) (by omega)
            have e2 : (0 : Int) ≤ 16 + (r : Int) - (j : Int) := by omega
            have e3 : 16 + (r : Int) - (j : Int) < 16 := by omega
            have e4 : (16 + (r : Int) - (j : Int)).toNat = 16 + r - j := by omega
            have wr0 : IntKind.u64.wrap (38 * x) = 38 * x := by rw [IntKind.wrap_u64]; omega
            have wr1 : IntKind.u64.wrap (38 * x * y) = 38 * x * y := by rw [IntKind.wrap_u64]; omega
            have wr2 : IntKind.u64.wrap (s + 38 * x * y) = s + 38 * x * y := by rw [IntKind.wrap_u64]; omega
            go_upto_region 11 with fail
            go_region
            all_goals
              have HA3 := hidden (HA.out.drew)
              have HBB3 := hidden (HBB.out.drew)
              have HZ3 := hidden (HZ.out.drew)
              have HO3 := hidden (HO.out.drew)
              have HB3 := hidden (HB.out.drew)
              clear HA HBB HZ HO HB hcx hfx hcy hfy wr0 wr1 wr2 hsr htr ht
              generalize World.drew _ = w5 at *
              go_wp2
              go_roundw
              case rel => exact ⟨j + 1, by omega, by go_num, by rw [HS2.eq], HA3.out, HBB3.out, HZ3.out, HO3.out, HB3.out⟩
              case measure => simp [intOf]; omega
        · have hj16 : j = 16 := by omega
          have hge : ¬ (j : Int) < 16 := by omega
          rw [hj16]
          have hcx := HO.out.cell r (by rw [HML.out]; exact hlt)
          have hfx := HO.out.fr r
          have ho2 := HO.out.set r (S r 16)
          rw [HMS2.eq] at ho2
          have HO2 := hidden ho2
          generalize S r 16 = s at *
          rw [hj16] at hge
          clear ho2 hj16
          go_wp2
          go_roundw
          case rel => exact ⟨r + 1, by omega, by go_num, HA.out.other _ _ (by simp; try omega), HBB.out.other _ _ (by simp; try omega), HZ.out.other _ _ (by simp; try omega), HO2.out, HB.out.setCell (by simp; try omega) _⟩
          case measure => simp [intOf]; omega
    · have hr16 : r = 16 := by omega
      have hge : ¬ (r : Int) < 16 := by omega
      have hoe := HO.out
      rw [hr16, HME.eq] at hoe
      have HE := hidden hoe
      clear hr16 hoe HO HA HBB
      go_wp2_with (first
        | (refine wpList_load_row rfl 54 _ rfl (n + 1 + 1 + 1) rfl 54 _ (0, 0) _ HE.out.heap Try.underlying54 rfl HIX.out ?_)
        | (go_at_call 36; (with_reducible refine (HCAR.out _).mono ?_); rintro e4 w4 ⟨rfl, hb4⟩; have HB4 := hidden hb4; have HZ4 := hidden (HZ.out.below hb4); clear hb4)
        | (refine wpList_store_row rfl 54 _ _ rfl (n + 1 + 1) (ints .u64 R) rfl rfl 54 _ HZ4.out.heap HIR.out HZR.out (onek .u64 R) ?_)
        | fail)
      refine bodyPost_ret (results_cell_row rfl _ _ (n + 1 + 1) 54 _ _ _ rfl (HZ4.out.row R).heap Try.underlying54 rfl HIR.out) rfl ?_
      exact ⟨rfl, by rw [HN.out]; exact below_setRow (HB.out.trans (HB4.out.mono (by have := HE.out.lt; omega))) (by omega) _⟩
end Go.Proofs.Ytilnbmlbahflkaa
