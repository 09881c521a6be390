/-
  poly1305.reduced and poly1305.lowest.
-/
import Derived.Test.YtnbpangegegccaaPolyOps
namespace Go.Proofs.Ytnbpangegegccaa
open Go.RowKit
set_option linter.unusedVariables false

set_option maxHeartbeats 1600000 in
set_option maxRecDepth 100000 in
theorem reduced_any (L : List Int) (h : Lm 67108869 67108864 L) (w : World) :
    Calls Try.prog 23 #[.agg (ints .u64 L)] w fun e w' => ∃ R, e = .returned (.agg (ints .u64 R)) ∧ Lm 67108879 67108864 R ∧ num B26 R = num B26 L + 5 * ((num B26 L + 5) / 1361129467683753853853498429727072845824) ∧ Below w.heap.size w w' := by
  have hL := h.len
  have hall := h.all 4611686018427387904 (by omega) (by omega)
  obtain ⟨i0, hi0, hz0, hz1, hz2⟩ := info_parts infoU64
  have HIX := hidden (fun (j : Nat) (hj : j < 5) (w' : World) => run_indexN (k := .u64) (P := Try.prog) Try.underlying44 Try.underlying42 hi0 hz1 L hL j hj w')
  have HIS := hidden (infoL L hL)
  have HOS := hidden (fun j (hj : j < 5) => outC_succ 5 L j (by omega))
  have HOR := hidden (fun j (hj : j ≤ 5) => outC_rng 5 (by omega) (by omega) L hall j (by omega))
  have HO0 : Is (outC 5 L 0) 5 := ⟨by simp [outC, num]⟩
  have hq : outC 5 L 5 = (num B26 L + 5) / 1361129467683753853853498429727072845824 := by
    unfold outC
    rw [B265, List.take_of_length_le (by omega)]
  have hv : 0 ≤ num B26 L ∧ num B26 L < 1361129467683753853853498429727072845829 := by
    obtain ⟨a, b, c, d, e, rfl⟩ := five L hL
    have k0 := h.fst
    have k1 := h.rest 1 (by omega) (by omega)
    have k2 := h.rest 2 (by omega) (by omega)
    have k3 := h.rest 3 (by omega) (by omega)
    have k4 := h.rest 4 (by omega) (by omega)
    simp at k0 k1 k2 k3 k4
    rw [num5]
    omega
  have HQ := Is.mk hq
  have hk : 0 ≤ outC 5 L 5 ∧ outC 5 L 5 ≤ 1 := by rw [hq]; omega
  have HK := hidden hk
  have HX0 := hidden h.fst
  have HXR := hidden (fun j (hj : j < 5) => hall (L.getD j 0) (by rw [List.getD_eq_getElem?_getD]; simp [show j < L.length by omega]))
  have HLL := Is.mk hL
  have HRS := hidden (fun k (hk : 0 ≤ k ∧ k ≤ 1) => (show Lm 67108879 67108864 (L.set 0 (L.getD 0 0 + k * 5)) ∧ num B26 (L.set 0 (L.getD 0 0 + k * 5)) = num B26 L + 5 * k by
    refine ⟨?_, ?_⟩
    · obtain ⟨a, b, c, d, e, rfl⟩ := five L hL
      have k0 := h.fst
      have k1 := h.rest 1 (by omega) (by omega)
      have k2 := h.rest 2 (by omega) (by omega)
      have k3 := h.rest 3 (by omega) (by omega)
      have k4 := h.rest 4 (by omega) (by omega)
      simp at k0 k1 k2 k3 k4
      exact Lm.of _ _ _ _ _ _ _ (by simp; omega) (by omega) (by omega) (by omega) (by omega)
    · rw [num_set _ _ _ (by omega), Int.pow_zero]
      omega))
  clear hi0 hz0 hz1 hz2 hL hall hq hv hk h
  generalize hS : ints .u64 L = S at HIX HIS ⊢
  have HSS := Is.mk hS
  clear hS
  go_enter Try.func23, Try.ntmps23
  go_wp2_with (first
    | (refine wpList_load_row rfl 44 _ rfl w.heap.size rfl 44 S (0, 0) _ (heap_1st _ _ _ _) Try.underlying44 rfl HIS.out ?_)
    | fail)
  generalize hw1 : World.alloc _ (.cells _ 44) = w1
  have hA : Wn .u64 w1 w.heap.size 44 L := by
    rw [← hw1]
    exact (Wn.new .u64 w 44 L _ HSS.eq.symm).alloc _
  have hZ : Wn .u64 w1 (w.heap.size + 1) 44 (List.replicate 5 0) := by
    rw [← hw1]
    exact Wn.new' .u64 _ 44 (List.replicate 5 0) _ rfl _ (by simp)
  have hb : Below w.heap.size w w1 := by
    rw [← hw1]
    exact ((Below.refl _ w).alloc (Nat.le_refl _) _).alloc (by simp) _
  clear hw1
  obtain ⟨n, hn⟩ : ∃ n, w.heap.size = n := ⟨_, rfl⟩
  simp only [hn] at hA hZ hb ⊢
  have HN := hidden hn
  have HA := hidden hA
  have HZ := hidden hZ
  have HB := hidden hb
  clear hA hZ hb hn
  go_loopw [3, 7] (fun c i wr => ∃ j : Nat, j ≤ 5 ∧ i = .int .i64 j ∧ c = .int .u64 (outC 5 L j) ∧ w1 = wr) (fun _ i _ => 5 - (intOf i).toNat)
  case atStart => exact ⟨0, by omega, rfl, by rw [HO0.eq], rfl⟩
  case round =>
    obtain ⟨j, hj, rfl, rfl, rfl⟩ := hrel
    by_cases hlt : j < 5
    · have hix := HIX.out j hlt
      have hox := HOR.out j hj
      have hxx := HXR.out j hlt
      have HS2 := Is.mk (HOS.out j hlt)
      generalize L.getD j 0 = x at hix hxx HS2
      generalize outC 5 L j = c at hox HS2
      have wr0 : IntKind.u64.wrap (x + c) = x + c := by rw [IntKind.wrap_u64]; omega
      have b0 : (j : Int) < 5 := by omega
      have b1 : (0 : Int) ≤ (j : Int) := by omega
      go_wp2
      go_roundw
      case rel => exact ⟨j + 1, by omega, by go_num, by rw [HS2.eq], by trivial⟩
      case measure => simp [intOf]; omega
    · have hj5 : j = 5 := by omega
      have hge : ¬ (j : Int) < 5 := by omega
      rw [← hj5] at HK HQ
      clear hj5
      have hox := HK.out
      have hcx := HA.out.cell 0 (by rw [HLL.eq]; omega)
      have hfx := HA.out.fr 0
      have hmx := HX0.out
      have HRR0 := hidden (HRS.out (outC 5 L j) HK.out)
      generalize L.getD 0 0 = x at hcx hmx HRR0
      generalize outC 5 L j = c at hox HRR0 HQ ⊢
      have wr1 : IntKind.u64.wrap (c * 5) = c * 5 := by rw [IntKind.wrap_u64]; omega
      have wr2 : IntKind.u64.wrap (x + c * 5) = x + c * 5 := by rw [IntKind.wrap_u64]; omega
      have HE := hidden (HA.out.set 0 (x + c * 5))
      have HZE : Hid (Wn .u64 (w1.setCell ⟨n, 0, none⟩ (.int .u64 (x + c * 5))) (n + 1) 44 (List.replicate 5 0)) := HZ.out.other _ _ (by simp)
      have HBE := hidden (HB.out.setCell (p := ⟨n, 0, none⟩) (Nat.le_refl _) (.int .u64 (x + c * 5)))
      generalize L.set 0 (x + c * 5) = R at *
      have HIR := hidden (infoL R HRR0.out.1.len)
      have HZR : Hid ((ints .u64 (List.replicate 5 (0 : Int))).size = (ints .u64 R).size) := by show _ = _; rw [ints_size, ints_size, HRR0.out.1.len]; rfl
      go_wp2_with (first
        | (refine wpList_load_row rfl 44 _ rfl n rfl 44 _ (0, 0) _ HE.out.heap Try.underlying44 rfl HIR.out ?_)
        | (refine wpList_store_row rfl 44 _ _ rfl (n + 1) (ints .u64 R) rfl rfl 44 _ HZE.out.heap HIR.out HZR.out (onek .u64 R) ?_)
        | fail)
      refine bodyPost_ret (results_cell_row rfl _ _ (n + 1) 44 _ _ _ rfl (HZE.out.row R).heap Try.underlying44 rfl HIR.out) rfl ?_
      exact ⟨R, rfl, HRR0.out.1, by rw [HRR0.out.2, HQ.eq], by rw [HN.out]; exact below_setRow HBE.out (show n ≤ n + 1 by omega) _⟩

theorem take5 (a b c d e : Int) (j : Nat) (hj : j < 5) : j = 0 ∨ j = 1 ∨ j = 2 ∨ j = 3 ∨ j = 4 := by omega
/-- What is left of the first j limbs is small. -/
theorem rest_small (L : List Int) (h : Lm 268435456 268435456 L) (j : Nat) (hj : j ≤ 5) : 0 ≤ num B26 (L.take j) / 256 ^ (26 * j / 8) ∧ num B26 (L.take j) / 256 ^ (26 * j / 8) < 65536 := by
  obtain ⟨a, b, c, d, e, rfl⟩ := five L h.len
  have k0 := h.fst
  have k1 := h.rest 1 (by omega) (by omega)
  have k2 := h.rest 2 (by omega) (by omega)
  have k3 := h.rest 3 (by omega) (by omega)
  have k4 := h.rest 4 (by omega) (by omega)
  simp at k0 k1 k2 k3 k4
  have : j = 0 ∨ j = 1 ∨ j = 2 ∨ j = 3 ∨ j = 4 ∨ j = 5 := by omega
  rcases this with rfl | rfl | rfl | rfl | rfl | rfl <;> simp [num, B26] <;> omega
/-- A limb comes on top of what is left. -/
theorem rest_add (L : List Int) (h : L.length = 5) (j : Nat) (hj : j < 5) : num B26 (L.take (j + 1)) / 256 ^ (26 * j / 8) = num B26 (L.take j) / 256 ^ (26 * j / 8) + L.getD j 0 * 2 ^ (26 * j % 8) := by
  rw [num_take _ _ _ (by omega)]
  obtain ⟨a, b, c, d, e, rfl⟩ := five L h
  have : j = 0 ∨ j = 1 ∨ j = 2 ∨ j = 3 ∨ j = 4 := by omega
  rcases this with rfl | rfl | rfl | rfl | rfl <;> simp [num, B26] <;> omega
/-- The bytes so far stay. -/
theorem dig_stay (L : List Int) (h : L.length = 5) (j : Nat) (hj : j < 5) : dig 256 (26 * j / 8) (num B26 (L.take (j + 1))) = dig 256 (26 * j / 8) (num B26 (L.take j)) := by
  rw [num_take _ _ _ (by omega)]
  have e : B26 ^ j = 256 ^ (26 * j / 8) * 2 ^ (26 * j % 8) := by
    have : j = 0 ∨ j = 1 ∨ j = 2 ∨ j = 3 ∨ j = 4 := by omega
    rcases this with rfl | rfl | rfl | rfl | rfl <;> decide
  rw [e, Int.mul_assoc, dig_add _ (by omega)]
theorem mul_small2 (x p : Int) (hx : 0 ≤ x ∧ x < 268435456) (hp : 1 ≤ p ∧ p ≤ 33554432) : 0 ≤ x * p ∧ x * p ≤ 9007199254740992 := by
  refine ⟨Int.mul_nonneg hx.1 (by omega), ?_⟩
  have h1 : x * p ≤ 268435456 * p := Int.mul_le_mul_of_nonneg_right (Int.le_of_lt hx.2) (by omega)
  omega

set_option maxHeartbeats 1600000 in
set_option maxRecDepth 100000 in
theorem lowest_any (L : List Int) (h : Lm 268435456 268435456 L) (w : World) :
    Calls Try.prog 22 #[.agg (ints .u64 L)] w fun e w' => ∃ v, e = .returned v ∧ Own w' w.heap.size 5 v (dig 256 16 (num B26 L)) ∧ Below w.heap.size w w' := by
  have hL := h.len
  obtain ⟨i0, hi0, hz0, hz1, hz2⟩ := info_parts infoU64
  obtain ⟨ib, hib, hb0, hb1, hb2⟩ := info_parts Try.infoByte
  have HIX := hidden (fun (j : Nat) (hj : j < 5) (w' : World) => run_indexN (k := .u64) (P := Try.prog) Try.underlying44 Try.underlying42 hi0 hz1 L hL j hj w')
  have HIS := hidden (infoL L hL)
  obtain ⟨V, hV⟩ : ∃ V : Nat → Int, V = fun j => num B26 (L.take j) := ⟨_, rfl⟩
  have HRS : Hid (∀ j, j ≤ 5 → 0 ≤ V j / 256 ^ (26 * j / 8) ∧ V j / 256 ^ (26 * j / 8) < 65536) := fun j hj => by rw [hV]; exact rest_small L h j hj
  have HRA : Hid (∀ j, j < 5 → V (j + 1) / 256 ^ (26 * j / 8) = V j / 256 ^ (26 * j / 8) + L.getD j 0 * 2 ^ (26 * j % 8)) := fun j hj => by rw [hV]; exact rest_add L hL j hj
  have HDS : Hid (∀ j, j < 5 → dig 256 (26 * j / 8) (V (j + 1)) = dig 256 (26 * j / 8) (V j)) := fun j hj => by rw [hV]; exact dig_stay L hL j hj
  have HV0 : Is (V 0) 0 := ⟨by rw [hV]; simp [num]⟩
  have HVE : Is (num B26 L) (V 5) := ⟨by rw [hV]; simp only; rw [List.take_of_length_le (by omega)]⟩
  have HXR := hidden (fun j (hj : j < 5) => h.all 268435456 (Int.le_refl _) (Int.le_refl _) (L.getD j 0) (by rw [List.getD_eq_getElem?_getD]; simp [show j < L.length by omega]))
  rw [HVE.eq]
  clear hi0 hz0 hz1 hz2 hL hV HVE
  generalize hS : ints .u64 L = S at HIX HIS ⊢
  have HSS := Is.mk hS
  clear hS
  go_enter Try.func22, Try.ntmps22
  go_wp2_with (first
    | (at_make; refine wpList_make_byt _ rfl _ _ 22 rfl w.heap.size 5 ib Try.underlying22 hib hb0 hb1 hb2 _ _ _ _ 0 16 rfl rfl ?m1 ?m2 ?m3 ?m4 ?m5 ?_)
    | fail)
  case m1 => rfl
  case m2 => rfl
  case m3 => omega
  case m4 => omega
  case m5 => simp
  intro w1 hown hgr
  have HO1 := hidden hown
  have HB1 := hidden (((Below.refl w.heap.size w).alloc (Nat.le_refl _) (.cells S 44)).grown hgr (by simp) (by intro k hk; simp at hk))
  have HSB : Hid (w1.heap[w.heap.size]? = some (.cells S 44 (0, 0))) := by
    show w1.heap[w.heap.size]? = _
    rw [hgr.block _ (by simp) (by simp), heap_alloc_new]
  clear hown hgr
  obtain ⟨n, hn⟩ : ∃ n, w.heap.size = n := ⟨_, rfl⟩
  simp only [hn] at HO1 HB1 HSB ⊢
  have HN := hidden hn
  have HD0 : Hid (Own w1 n 5 (.slice (some ⟨n + 1, 0, none⟩) 0 16) (dig 256 (26 * 0 / 8) (V 0))) := HO1.out
  have HR0 : Is (V 0 / 256 ^ (26 * 0 / 8)) 0 := ⟨by rw [HV0.eq]; simp⟩
  clear hn HO1
  go_wp2_with (first
    | (refine wpList_load_row rfl 44 _ rfl n rfl 44 S (0, 0) _ HSB.out Try.underlying44 rfl HIS.out ?_)
    | fail)
  go_loopw [3, 4, 5, 10] (fun u r b i wr => ∃ j : Nat, j ≤ 5 ∧ i = .int .i64 j ∧ b = .int .i64 ((26 * j % 8 : Nat) : Int) ∧ r = .int .u64 (V j / 256 ^ (26 * j / 8)) ∧ Own wr n 5 u (dig 256 (26 * j / 8) (V j)) ∧ Below n w wr) (fun _ _ _ i _ => 5 - (intOf i).toNat)
  case atStart => exact ⟨0, by omega, rfl, rfl, by rw [HR0.eq], HD0.out, HB1.out⟩
  case round =>
    obtain ⟨j, hj, rfl, rfl, rfl, ho, hb⟩ := hrel
    rename_i uo
    have HO := hidden ho
    have HB := hidden hb
    clear ho hb HD0 HB1 HSB
    by_cases hlt : j < 5
    · have hix := HIX.out j hlt
      have hxx := HXR.out j hlt
      have hrs := HRS.out j hj
      have HRA2 := Is.mk (HRA.out j hlt)
      have ho2 := HO.out
      rw [← HDS.out j hlt] at ho2
      have HO2 := hidden ho2
      have HM0 := hidden (show 26 * j % 8 + 8 * (26 * j / 8) = 26 * j by omega)
      generalize L.getD j 0 = x at hix hxx HRA2
      generalize V j / 256 ^ (26 * j / 8) = r at hrs HRA2 ⊢
      have ht6 : 26 * j % 8 ≤ 7 := by omega
      have HK0 : Hid (26 * j / 8 ≤ 16 ∧ 26 * j / 8 + 3 ≤ 26 * (j + 1) / 8 ∧ 26 * (j + 1) / 8 ≤ 16) := by show 26 * j / 8 ≤ 16 ∧ 26 * j / 8 + 3 ≤ 26 * (j + 1) / 8 ∧ 26 * (j + 1) / 8 ≤ 16; omega
      have HE1 := hidden (show 26 * (j + 1) / 8 * 8 + 26 * (j + 1) % 8 = 26 * (j + 1) by omega)
      generalize 26 * j % 8 = t at *
      generalize 26 * j / 8 = k0 at *
      have hmx := mul_small2 x (2 ^ t) hxx (pow_small t (by omega))
      have w0 : IntKind.u64.wrap (x * 2 ^ t) = x * 2 ^ t := by rw [IntKind.wrap_u64]; omega
      have w1' : IntKind.u64.wrap (r + x * 2 ^ t) = r + x * 2 ^ t := by rw [IntKind.wrap_u64]; omega
      have HR2 : Is (V (j + 1) / 256 ^ k0) (r + x * 2 ^ t) := HRA2
      have hr2 : 0 ≤ r + x * 2 ^ t ∧ r + x * 2 ^ t < 18446744073709551616 := by omega
      have b0 : (j : Int) < 5 := by omega
      have b1 : (0 : Int) ≤ (j : Int) := by omega
      have b2 : (0 : Int) ≤ (t : Int) := by omega
      have b3 : IntKind.i64.wrap ((t : Int) + 26) = ((t + 26 : Nat) : Int) := by rw [wraps_i64 _ (by omega) (by omega)]; omega
      clear HO HRA2 ho2 hmx
      have HR3 : Is (r + x * 2 ^ t) (V (j + 1) / 256 ^ k0) := ⟨HR2.eq.symm⟩
      go_wp2
      generalize r + x * 2 ^ t = rr at *
      go_loopw [3, 4, 5] (fun u r b wr => ∃ (k : Nat) (bt : Nat) (rv : Int), k0 ≤ k ∧ k ≤ 26 * (j + 1) / 8 ∧ Hid (bt + 8 * k = 26 * (j + 1)) ∧ b = .int .i64 (bt : Int) ∧ r = .int .u64 rv ∧ 0 ≤ rv ∧ rv < 18446744073709551616 ∧ Is rv (V (j + 1) / 256 ^ k) ∧ Own wr n 5 u (dig 256 k (V (j + 1))) ∧ Below n w wr) (fun _ _ b _ => (intOf b).toNat)
      case atStart => exact ⟨k0, t + 26, rr, Nat.le_refl _, by have := HK0.out; omega, hidden (by have := HM0.out; omega), rfl, rfl, hr2.1, hr2.2, HR3, HO2.out, HB.out⟩
      case round =>
        obtain ⟨k, bt, rv, hk0, hk, HBT, rfl, rfl, hrv0, hrv1, HRV, ho, hb⟩ := hrel
        rename_i uo2
        have HO := hidden ho
        have HBB := hidden hb
        clear ho hb HO2 HB HR2 HR3
        by_cases hkt : k < 26 * (j + 1) / 8
        · have hb8 : 8 ≤ (bt : Int) := by have := HBT.out; omega
          have hge : ¬ (bt : Int) < 8 := by omega
          have hbt : (bt : Int) - 8 = ((bt - 8 : Nat) : Int) := by omega
          have hb40 : bt ≤ 40 := by have := HBT.out; have := HM0.out; have := HK0.out; omega
          have HNX := Is.mk (dig_succ 256 (by omega) k (V (j + 1)))
          have HRN : Is (rv / 256) (V (j + 1) / 256 ^ (k + 1)) := ⟨by rw [HRV.eq, Int.ediv_ediv_of_nonneg (by have := pow_pos' (b := 256) (by omega) k; omega), Int.pow_succ]⟩
          rw [← HRV.eq] at HNX
          have HDL := Is.mk (dig_len 256 k (V (j + 1)))
          go_wp2_with (at_builtin; refine wpList_append_byt _ rfl _ _ 22 rfl n 5 ib (.int .u8 0) Try.underlying22 hib hb0 hb1 hb2 rfl _ _ rfl (HO.out.alloc _) _ _ _ _ _ rfl (one_byte _ _ (rv % 256) ?c0 ?c1) rfl ?c2 ?c3 ?_)
          case c0 => omega
          case c2 => rw [HDL.eq]; have := HK0.out; omega
          case c3 => have := HBB.out.size; have := HN.out; simp; omega
          intro u' w2 hown2 hg2
          have HB2 := hidden ((HBB.out.alloc (by have := HBB.out.size; have := HN.out; omega) _).grown hg2 (by have := HBB.out.size; have := HN.out; simp; omega) (fun k hk => (HO.out.lt k hk).1))
          rw [← HNX.eq] at hown2
          have HO2 := hidden hown2
          have HMS := hidden (show (bt : Int).toNat = bt by omega)
          clear hown2 hg2 HO HBB
          go_wp2
          go_roundw
          case rel => exact ⟨k + 1, bt - 8, rv / 256, by omega, by omega, hidden (by have := HBT.out; omega), by go_num, by go_num, by omega, by omega, HRN, HO2.out, HB2.out⟩
          case measure => simp [intOf]; omega
        · have hb8 : (bt : Int) < 8 := by have := HBT.out; have := HE1.out; omega
          have hge : ¬ (8 ≤ (bt : Int)) := by omega
          have hke : k = 26 * (j + 1) / 8 := by omega
          have hbe : bt = 26 * (j + 1) % 8 := by have := HBT.out; omega
          have ho2 := HO.out
          have hrv := HRV.eq
          rw [hke] at ho2 hrv
          have HOE := hidden ho2
          have HRE := Is.mk hrv
          have HBE := Is.mk hbe
          clear hke hbe ho2 hrv HO
          go_wp2
          go_roundw
          case rel => exact ⟨j + 1, by omega, by go_num, by rw [HBE.eq], by rw [HRE.eq], HOE.out, HBB.out⟩
          case measure => simp [intOf]; omega
    · have hj5 : j = 5 := by omega
      have hge : ¬ (j : Int) < 5 := by omega
      have ho2 := HO.out
      rw [hj5] at ho2
      have HOE := hidden ho2
      clear hj5 ho2 HO
      go_wp2
      go_ret
      exact ⟨_, rfl, by rw [HN.out]; exact HOE.out, by rw [HN.out]; exact HB.out⟩
end Go.Proofs.Ytnbpangegegccaa
