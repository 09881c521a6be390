/-
  The document's product modulo 2^130 - 5.
-/
import Derived.Test.YtnbpangegegccaaRPolyB
namespace Go.Proofs.Ytnbpangegegccaa
open Go.RowKit
set_option linter.unusedVariables false

/-- The coefficients of one digit's products, column by column. -/
def rotB (b : List Int) (j : Nat) : List Int := (b.drop (17 - j)).map (320 * ·) ++ b.take (17 - j)
theorem rotB_len (b : List Int) (h : b.length = 17) (j : Nat) (hj : j ≤ 17) : (rotB b j).length = 17 := by simp [rotB, h] <;> omega
theorem num_scale (x : Int) (l : List Int) : num 256 (l.map (x * ·)) = x * num 256 l := by
  induction l with
  | nil => simp [num]
  | cons y l ih => simp only [List.map_cons, num, ih]; grind
theorem rotB_num (b : List Int) (h : b.length = 17) (j : Nat) (hj : j ≤ 17) : num 256 (rotB b j) + (64 * num 256 (b.drop (17 - j))) * P130 = 256 ^ j * num 256 b := by
  unfold rotB
  rw [num_append, num_scale]
  have h1 : num 256 b = num 256 (b.take (17 - j)) + 256 ^ (17 - j) * num 256 (b.drop (17 - j)) := by
    have := num_append 256 (b.take (17 - j)) (b.drop (17 - j))
    rw [List.take_append_drop, List.length_take, show min (17 - j) b.length = 17 - j by omega] at this
    exact this
  have h2 : (256 : Int) ^ j * 256 ^ (17 - j) = 64 * P130 + 320 := by
    rw [← Int.pow_add, show j + (17 - j) = 17 by omega]
    decide
  have h3 : ((b.drop (17 - j)).map (320 * ·)).length = j := by simp [h]; omega
  rw [h3, h1]
  generalize num 256 (b.take (17 - j)) = u at *
  generalize num 256 (b.drop (17 - j)) = v at *
  generalize (256 : Int) ^ j = p at *
  generalize (256 : Int) ^ (17 - j) = q at *
  grind
theorem rotB_lo (b : List Int) (h : b.length = 17) (j i : Nat) (hj : j ≤ i) (hi : i < 17) : (rotB b j).getD i 0 = b.getD (i - j) 0 := by
  unfold rotB
  rw [List.getD_eq_getElem?_getD, List.getElem?_append_right (by simp [h]; omega)]
  have : ((b.drop (17 - j)).map (320 * ·)).length = j := by simp [h]; omega
  rw [this, List.getElem?_take, if_pos (by omega), List.getD_eq_getElem?_getD]
theorem rotB_hi (b : List Int) (h : b.length = 17) (j i : Nat) (hj : i < j) (hj17 : j ≤ 17) : (rotB b j).getD i 0 = 320 * b.getD (17 + i - j) 0 := by
  unfold rotB
  rw [List.getD_eq_getElem?_getD, List.getElem?_append_left (by simp [h]; omega), List.getElem?_map, List.getElem?_drop, show 17 - j + i = 17 + i - j by omega]
  rw [List.getElem?_eq_getElem (show 17 + i - j < b.length by omega), List.getD_eq_getElem?_getD, List.getElem?_eq_getElem (show 17 + i - j < b.length by omega)]
  rfl
/-- The columns after k digits. -/
def outL (a b : List Int) : Nat → List Int
  | 0 => List.replicate 17 0
  | k + 1 => addL (outL a b k) ((rotB b k).map (a.getD k 0 * ·))
theorem outL_len (a b : List Int) (hb : b.length = 17) (k : Nat) (hk : k ≤ 17) : (outL a b k).length = 17 := by
  induction k with
  | zero => simp [outL]
  | succ k ih => rw [outL, addL_len, List.length_map, ih (by omega), rotB_len b hb k (by omega)]; rfl
theorem outL_num (a b : List Int) (ha : a.length = 17) (hb : b.length = 17) (k : Nat) (hk : k ≤ 17) : ∃ t, num 256 (outL a b k) + t * P130 = num 256 (a.take k) * num 256 b := by
  induction k with
  | zero => exact ⟨0, by simp [outL, num]⟩
  | succ k ih =>
    obtain ⟨t, ht⟩ := ih (by omega)
    have h1 := rotB_num b hb k (by omega)
    refine ⟨t + a.getD k 0 * (64 * num 256 (b.drop (17 - k))), ?_⟩
    rw [outL, addL_num _ _ _ (by rw [List.length_map, outL_len a b hb k (by omega), rotB_len b hb k (by omega)]), num_scale, num_take _ _ _ (by omega)]
    generalize num 256 (outL a b k) = u at *
    generalize num 256 (rotB b k) = v at *
    generalize num 256 (b.drop (17 - k)) = d at *
    generalize num 256 (a.take k) = f at *
    generalize a.getD k 0 = x at *
    generalize num 256 b = nb at *
    generalize (256 : Int) ^ k = p at *
    grind
theorem outL_get (a b : List Int) (hb : b.length = 17) (k i : Nat) (hk : k < 17) (hi : i < 17) : (outL a b (k + 1)).getD i 0 = (outL a b k).getD i 0 + a.getD k 0 * (rotB b k).getD i 0 := by
  rw [outL, addL_get _ _ _ (by rw [outL_len a b hb k (by omega)]; exact hi) (by rw [List.length_map, rotB_len b hb k (by omega)]; exact hi)]
  congr 1
  rw [List.getD_eq_getElem?_getD, List.getElem?_map, List.getD_eq_getElem?_getD (l := rotB b k), List.getElem?_eq_getElem (show i < (rotB b k).length by rw [rotB_len b hb k (by omega)]; exact hi)]
  rfl
theorem mul_255 (x y : Int) (hx : 0 ≤ x ∧ x ≤ 255) (hy : 0 ≤ y ∧ y ≤ 255) : 0 ≤ x * y ∧ x * y ≤ 65025 := by
  refine ⟨Int.mul_nonneg hx.1 hy.1, ?_⟩
  have h1 : x * y ≤ 255 * y := Int.mul_le_mul_of_nonneg_right hx.2 hy.1
  omega
/-- A column in its row: the list with what has been stored. -/
theorem outL_store (a b : List Int) (hb : b.length = 17) (i : Nat) (hi : i < 17) : ((outL a b 17).take i ++ List.replicate (17 - i) 0).set i ((outL a b 17).getD i 0) = (outL a b 17).take (i + 1) ++ List.replicate (17 - (i + 1)) 0 := by
  have hl := outL_len a b hb 17 (by omega)
  rw [set_fill _ 17 i _ (by simp; omega) hi, List.take_succ_eq_append_getElem (by omega)]
  simp [List.getD_eq_getElem?_getD, hl, hi]

/-- What lies where. -/
structure RpI (w wr : World) (n : Nat) (A B O : List Int) : Prop where
  a : Wn .u32 wr n 53 A
  b : Wn .u32 wr (n + 1) 53 B
  z : Wn .u32 wr (n + 1 + 1) 53 (List.replicate 17 0)
  o : Wn .u32 wr (n + 1 + 1 + 1) 53 O
  bel : Below n w wr
theorem RpI.set {w wr : World} {n : Nat} {A B O : List Int} (h : RpI w wr n A B O) (j : Nat) (v : Int) : RpI w (wr.setCell ⟨n + 1 + 1 + 1, j, none⟩ (.int .u32 v)) n A B (O.set j v) :=
  ⟨h.a.other _ _ (by simp <;> omega), h.b.other _ _ (by simp <;> omega), h.z.other _ _ (by simp), h.o.set _ _, h.bel.setCell (by simp <;> omega) _⟩
theorem RpI.drew {w wr : World} {n : Nat} {A B O : List Int} (h : RpI w wr n A B O) : RpI w wr.drew n A B O := ⟨h.a.drew, h.b.drew, h.z.drew, h.o.drew, h.bel.drew⟩

set_option maxHeartbeats 3200000 in
set_option maxRecDepth 100000 in
theorem rproduct_any (A B : List Int) (hA : A.length = 17) (hB : B.length = 17) (hrA : ∀ i, 0 ≤ A.getD i 0 ∧ A.getD i 0 ≤ 255) (hrB : ∀ i, 0 ≤ B.getD i 0 ∧ B.getD i 0 ≤ 255) (w : World) :
    Calls Try.prog 25 #[.agg (ints .u32 A), .agg (ints .u32 B)] w fun e w' => ∃ R, e = .returned (.agg (ints .u32 R)) ∧ Nrm R ∧ (∃ t, num 256 R + t * P130 = num 256 A * num 256 B) ∧ Below w.heap.size w w' := by
  obtain ⟨U, hU⟩ : ∃ U : Nat → Nat → Int, U = fun k i => (outL A B k).getD i 0 := ⟨_, rfl⟩
  have HU0 : Hid (∀ i, i < 17 → U 0 i = 0) := fun i hi => by rw [hU]; simp only [outL]; rw [List.getD_eq_getElem?_getD, List.getElem?_replicate, if_pos hi]; rfl
  have HUL : Hid (∀ k i, k ≤ i → i < 17 → U (k + 1) i = U k i + A.getD k 0 * B.getD (i - k) 0) := fun k i h1 h2 => by rw [hU]; simp only; rw [outL_get A B hB k i (by omega) h2, rotB_lo B hB k i h1 h2]
  have HUH : Hid (∀ k i, i < k → k < 17 → U (k + 1) i = U k i + 320 * A.getD k 0 * B.getD (17 + i - k) 0) := fun k i h1 h2 => by
    rw [hU]; simp only
    rw [outL_get A B hB k i h2 (by omega), rotB_hi B hB k i h1 (by omega)]
    grind
  have HUR : Hid (∀ k i, k ≤ 17 → i < 17 → 0 ≤ U k i ∧ U k i ≤ (k : Int) * 20808000) := fun k => by
    induction k with
    | zero => intro i _ hi; rw [HU0.out i hi]; omega
    | succ k ih =>
      intro i hk hi
      have h1 := ih i (by omega) hi
      have h2 := mul_255 _ _ (hrA k) (hrB (i - k))
      have h3 := mul_255 _ _ (hrA k) (hrB (17 + i - k))
      by_cases hki : k ≤ i
      · rw [HUL.out k i hki hi]
        push_cast
        omega
      · rw [HUH.out k i (by omega) (by omega), Int.mul_assoc]
        push_cast
        omega
  obtain ⟨O, hO⟩ : ∃ O, outL A B 17 = O := ⟨_, rfl⟩
  have hOl : O.length = 17 := by rw [← hO]; exact outL_len A B hB 17 (by omega)
  have HOS : Hid (∀ i, i < 17 → (O.take i ++ List.replicate (17 - i) 0).set i (U 17 i) = O.take (i + 1) ++ List.replicate (17 - (i + 1)) 0) := fun i hi => by
    rw [hU, ← hO]
    exact outL_store A B hB i hi
  have HOR : Hid (InvR 0 O) := by
    have hb : ∀ i, 0 ≤ O.getD i 0 ∧ O.getD i 0 ≤ 353736000 := fun i => by
      by_cases hi : i < 17
      · have := HUR.out 17 i (by omega) hi
        have e : U 17 i = O.getD i 0 := by rw [hU, ← hO]
        rw [e] at this
        omega
      · rw [List.getD_eq_getElem?_getD, List.getElem?_eq_none (by omega)]; simp
    exact hidden ⟨hOl, fun i => by have := hb i; omega, fun _ i => by have := hb i; omega, fun h => by omega, fun h => by omega, fun h => by omega⟩
  have HON : Hid (∃ t, num 256 O + t * P130 = num 256 A * num 256 B) := by
    have := outL_num A B hA hB 17 (by omega)
    rw [hO, List.take_of_length_le (by omega)] at this
    exact hidden this
  have HXA := hidden hrA
  have HXB := hidden hrB
  have HAL := Is.mk hA
  have HBL := Is.mk hB
  have HOL := Is.mk hOl
  clear hU hO hOl hA hB hrA hrB
  go_enter Try.func25, Try.ntmps25
  go_upto_region 2 with fail
  generalize hw1 : World.alloc _ (.cells _ 53) = w1
  have hI : RpI w w1 w.heap.size A B (O.take 0 ++ List.replicate (17 - 0) 0) := by
    rw [← hw1]
    refine ⟨?_, ?_, ?_, ?_, ?_⟩
    · exact (((Wn.new .u32 w 53 A _ rfl).alloc _).alloc _).alloc _
    · exact ((Wn.new' .u32 _ 53 B _ rfl _ (by simp)).alloc _).alloc _
    · exact (Wn.new' .u32 _ 53 (List.replicate 17 0) _ rfl _ (by simp)).alloc _
    · exact Wn.new' .u32 _ 53 (List.replicate 17 0) _ rfl _ (by simp)
    · exact ((((Below.refl _ w).alloc (Nat.le_refl _) _).alloc (by simp) _).alloc (by simp; omega) _).alloc (by simp; omega) _
  clear hw1
  obtain ⟨n, hn⟩ : ∃ n, w.heap.size = n := ⟨_, rfl⟩
  simp only [hn] at hI ⊢
  have HN := hidden hn
  have HI0 := hidden hI
  clear hI hn
  go_wp2
  go_loopw [6] (fun i wr => ∃ j : Nat, j ≤ 17 ∧ i = .int .i64 j ∧ RpI w wr n A B (O.take j ++ List.replicate (17 - j) 0)) (fun i _ => 17 - (intOf i).toNat)
  case atStart => exact ⟨0, by omega, rfl, HI0.out⟩
  case round =>
    clear HI0
    obtain ⟨i, hi, rfl, hri⟩ := hrel
    have HI := hidden hri
    clear hri
    by_cases hlt : i < 17
    · have b0 : (i : Int) < 17 := by omega
      have b1 : (0 : Int) ≤ (i : Int) := by omega
      have hid : decide ((i : Int) < 17) = true := by simp; omega
      have HU00 := Is.mk (HU0.out i hlt)
      go_wp2
      rename World => wo
      go_loopw [7, 8] (fun u k wr => ∃ j : Nat, j ≤ 17 ∧ k = .int .i64 j ∧ u = .int .u32 (U j i) ∧ RpI w wr n A B (O.take i ++ List.replicate (17 - i) 0)) (fun _ k _ => 17 - (intOf k).toNat)
      case atStart => exact ⟨0, by omega, rfl, by rw [HU00.eq], HI.out⟩
      case round =>
        clear HI HU00
        obtain ⟨j, hj, rfl, rfl, hri⟩ := hrel
        have HI := hidden hri
        clear hri
        by_cases hjt : j < 17
        · have hx := HI.out.a.cell j (by rw [HAL.eq]; exact hjt)
          have hxr := HXA.out j
          have hur := HUR.out j i (by omega) hlt
          have c0 : (j : Int) < 17 := by omega
          have c1 : (0 : Int) ≤ (j : Int) := by omega
          by_cases hji : j ≤ i
          · have hy := HI.out.b.cell (i - j) (by rw [HBL.eq]; omega)
            have hyr := HXB.out (i - j)
            have HS := Is.mk (HUL.out j i hji hlt)
            generalize A.getD j 0 = x at hx hxr HS
            generalize B.getD (i - j) 0 = y at hy hyr HS
            generalize U j i = u at *
            have hm := mul_255 x y hxr hyr
            have w0 : IntKind.u32.wrap (x * y) = x * y := by rw [IntKind.wrap_u32']; omega
            have w1' : IntKind.u32.wrap (u + x * y) = u + x * y := by rw [IntKind.wrap_u32']; omega
            have d0 : (j : Int) ≤ (i : Int) := by omega
            have d1 : (0 : Int) ≤ (i : Int) - (j : Int) := by omega
            have d2 : (i : Int) - (j : Int) < 17 := by omega
            have d3 : ((i : Int) - (j : Int)).toNat = i - j := by omega
            have HID := hidden HI.out.drew
            have HS2 : Is (u + x * y) (U (j + 1) i) := ⟨HS.eq.symm⟩
            go_upto_region 10 with fail
            go_region
            go_wp2
            go_roundw
            case rel => exact ⟨j + 1, by omega, by go_num, by rw [HS2.eq], HID.out⟩
            case measure => simp [intOf]; omega
          · have hy := HI.out.b.cell (17 + i - j) (by rw [HBL.eq]; omega)
            have hyr := HXB.out (17 + i - j)
            have HS := Is.mk (HUH.out j i (by omega) hjt)
            generalize A.getD j 0 = x at hx hxr HS
            generalize B.getD (17 + i - j) 0 = y at hy hyr HS
            generalize U j i = u at *
            have hm := mul_255 x y hxr hyr
            have e3 : 320 * x * y = 320 * (x * y) := Int.mul_assoc _ _ _
            have w2' : IntKind.u32.wrap (320 * x) = 320 * x := by rw [IntKind.wrap_u32']; omega
            have w0 : IntKind.u32.wrap (320 * x * y) = 320 * x * y := by rw [IntKind.wrap_u32']; omega
            have w1' : IntKind.u32.wrap (u + 320 * x * y) = u + 320 * x * y := by rw [IntKind.wrap_u32']; omega
            have d0 : ¬ (j : Int) ≤ (i : Int) := by omega
            have d1 : (0 : Int) ≤ 17 + (i : Int) - (j : Int) := by omega
            have d2 : 17 + (i : Int) - (j : Int) < 17 := by omega
            have d3 : (17 + (i : Int) - (j : Int)).toNat = 17 + i - j := by omega
            have HID := hidden HI.out.drew
            have HS2 : Is (u + 320 * x * y) (U (j + 1) i) := ⟨HS.eq.symm⟩
            clear e3
            go_upto_region 11 with fail
            go_region
            go_wp2
            go_roundw
            case rel => exact ⟨j + 1, by omega, by go_num, by rw [HS2.eq], HID.out⟩
            case measure => simp [intOf]; omega
        · have hje : j = 17 := by omega
          have hge : ¬ (j : Int) < 17 := by omega
          have hf := HI.out.o.fr i
          have hoc := HI.out.o.cell i (by simp [HOL.eq]; omega)
          have hue : U j i = U 17 i := by rw [hje]
          have HN1 : Hid (RpI w (wr.setCell ⟨n + 1 + 1 + 1, i, none⟩ (.int .u32 (U j i))) n A B (O.take (i + 1) ++ List.replicate (17 - (i + 1)) 0)) := by
            rw [← HOS.out i hlt, ← hue]
            exact hidden (HI.out.set i _)
          clear hje hue
          generalize U j i = u at *
          go_wp2
          go_roundw
          case rel => exact ⟨i + 1, by omega, by go_num, HN1.out⟩
          case measure => simp [intOf]; omega
    · have hie : i = 17 := by omega
      have hge : ¬ (i : Int) < 17 := by omega
      have hid : decide ((i : Int) < 17) = false := by simp; omega
      have HE : Hid (RpI w wr n A B O) := by
        have := HI.out
        rw [hie, List.take_of_length_le (by rw [HOL.eq]; omega)] at this
        simpa using hidden this
      have HIO := hidden (infoRL O HOL.eq)
      clear hie HI
      go_wp2_with (first
        | (refine wpList_load_row rfl 53 _ rfl (n + 1 + 1 + 1) rfl 53 _ (0, 0) _ HE.out.o.heap Try.underlying53 rfl HIO.out ?_)
        | (go_at_call 26; (with_reducible refine (rcarry_any O HOR.out wr).mono ?_); rintro e4 w4 ⟨R, rfl, hnr, ht, hb4⟩; have HNR := hidden hnr; have HTR := hidden ht; have HZ4 := hidden (HE.out.z.below hb4); have HB4 := hidden (HE.out.bel.trans (hb4.mono (Nat.le_of_lt (Nat.lt_of_le_of_lt (by omega) HE.out.z.lt)))); have HIR := hidden (infoRL R hnr.len); have HZR := hidden (zeroRL R hnr.len); clear hnr ht hb4)
        | (refine wpList_store_row rfl 53 _ _ rfl (n + 1 + 1) (ints .u32 R) rfl rfl 53 _ HZ4.out.heap HIR.out HZR.out (onek .u32 R) ?_)
        | fail)
      refine bodyPost_ret (results_cell_row rfl _ _ (n + 1 + 1) 53 _ _ _ rfl (HZ4.out.row R).heap Try.underlying53 rfl HIR.out) rfl ?_
      refine ⟨R, rfl, HNR.out, ?_, by rw [HN.out]; exact below_setRow HB4.out (by omega) _⟩
      obtain ⟨t1, h1⟩ := HTR.out
      obtain ⟨t2, h2⟩ := HON.out
      exact ⟨t1 + t2, by rw [← h2, ← h1]; grind⟩
end Go.Proofs.Ytnbpangegegccaa
