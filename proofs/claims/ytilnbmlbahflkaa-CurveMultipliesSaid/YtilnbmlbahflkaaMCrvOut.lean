/-
  curve.bytesOf.
-/
import Derived.Test.YtilnbmlbahflkaaMCrvRed
import Derived.Test.YtilnbmlbahflkaaMCrvConv
import Derived.Test.YtilnbmlbahflkaaMZ1
namespace Go.Proofs.Ytilnbmlbahflkaa
open Go.RowKit
set_option linter.unusedVariables false

theorem or_add8 (x b : Int) (s : Nat) (hs : s < 8) (h0 : 0 ≤ x) (h1 : x < 2 ^ s) (hb : b = 0 ∨ b = 1) : bits .or .u8 x (b * 2 ^ s) = x + b * 2 ^ s ∧ IntKind.u8.wrap (b * 2 ^ s) = b * 2 ^ s := by
  have key : ∀ s < 8, ∀ x < 2 ^ s, ∀ b < 2, bits .or .u8 ((x : Nat) : Int) (((b : Nat) : Int) * 2 ^ s) = ((x : Nat) : Int) + ((b : Nat) : Int) * 2 ^ s ∧ IntKind.u8.wrap (((b : Nat) : Int) * 2 ^ s) = ((b : Nat) : Int) * 2 ^ s := by decide +kernel
  obtain ⟨x, rfl⟩ := Int.eq_ofNat_of_zero_le h0
  have hx : x < 2 ^ s := by
    have : ((2 ^ s : Nat) : Int) = (2 : Int) ^ s := by simp
    omega
  rcases hb with rfl | rfl
  · exact key s hs x hx 0 (by decide)
  · exact key s hs x hx 1 (by decide)
theorem and1_u64 (x : Int) (h0 : 0 ≤ x) (h1 : x < 18446744073709551616) : bits .and .u64 x 1 = x % 2 :=
  bits_mask .u64 64 (by decide) (fun n h0 h1 => by rw [IntKind.wrap_u64]; omega) 1 (by decide) x h0 h1
theorem shr_le (x : Int) (n : Nat) (m : Int) (h0 : 0 ≤ x) (h1 : x < m) : 0 ≤ x / 2 ^ n ∧ x / 2 ^ n < m := by
  have hp := two_pos n
  exact ⟨Int.ediv_nonneg h0 (Int.le_of_lt hp), Int.lt_of_le_of_lt (Int.ediv_le_self _ h0) h1⟩
/-- The bytes of the lowest i bits of a number. -/
def byL (v : Int) (i : Nat) : List Int := dig 256 32 (v % 2 ^ i)
theorem byL_zero (v : Int) : byL v 0 = List.replicate 32 0 := by unfold byL; rw [Int.pow_zero, Int.emod_one, dig_zero]
theorem byL_len (v : Int) (i : Nat) : (byL v i).length = 32 := dig_len _ _ _
theorem byL_step (v : Int) (i : Nat) (hi : i < 255) : (byL v i).set (i / 8) ((byL v i).getD (i / 8) 0 + vbit v i * 2 ^ (i % 8)) = byL v (i + 1) ∧ 0 ≤ (byL v i).getD (i / 8) 0 ∧ (byL v i).getD (i / 8) 0 < 2 ^ (i % 8) := by
  unfold byL
  rw [show (256 : Int) = 2 ^ 8 by decide]
  exact dig_bit 8 32 v i (by decide) (by omega)
/-- The limbs of the lowest number, and their bits. -/
theorem red_bits (v : Int) : (∀ x ∈ dig B51 5 (v % (pN : Int)), 0 ≤ x ∧ x < 2251799813685248) ∧ (∀ i, i < 255 → (dig B51 5 (v % (pN : Int))).getD (i / 51) 0 / 2 ^ (i % 51) % 2 = vbit (v % (pN : Int)) i) ∧ byL (v % (pN : Int)) 255 = dig 256 32 (v % (pN : Int)) := by
  have h0 := Int.emod_nonneg v (show (pN : Int) ≠ 0 by decide)
  have h1 := Int.emod_lt_of_pos v (show 0 < (pN : Int) by decide)
  have hp := pN_int
  have h2 : (2 : Int) ^ 255 = 57896044618658097711785492504343953926634992332820282019728792003956564819968 := by decide
  have hr := dig_rng B51 B51_pos 5 (v % (pN : Int))
  refine ⟨hr, fun i hi => ?_, ?_⟩
  · have h := num_bit 51 (dig B51 5 (v % (pN : Int))) i (by decide) (by rw [dig_len]; omega) (fun x hx => hr x hx)
    have hn := num_dig B51 B51_pos 5 (v % (pN : Int))
    rw [Int.emod_eq_of_lt h0 (by rw [show B51 ^ 5 = 2 ^ 255 by decide, h2]; omega)] at hn
    rw [show B51 = (2 : Int) ^ 51 by decide] at hn h ⊢
    rw [hn] at h
    exact h.symm
  · unfold byL
    rw [Int.emod_eq_of_lt h0 (by omega)]
/-- The 32 bytes of an element. -/
def outK (x : K) : List Int := dig 256 32 (x.val : Int)
theorem outK_toK (v : Int) : dig 256 32 (v % (pN : Int)) = outK (toK v) := by unfold outK; rw [toK_int]
set_option maxHeartbeats 1600000 in
set_option maxRecDepth 100000 in
theorem bytesOf_any (L : List Int) (hL : Lw m1 L) (w : World) :
    Calls Try.prog 19 #[.agg (ints .u64 L)] w fun e w' => ∃ g, e = .returned (.slice (some ⟨g, 0, none⟩) 32 32) ∧ w.heap.size ≤ g ∧ Wb w' g 5 (outK (fe L)) ∧ Below w.heap.size w w' := by
  obtain ⟨i0, hi, hz0, hz1, hz2⟩ := info_parts Try.infoByte
  obtain ⟨Z1, HZ1, hmk⟩ := make_eq (P := Try.prog) 22 5 i0 Try.underlying22 hi hz0 hz1 hz2 32 (by omega)
  have hmk1 : ∀ w : World, (Instr.makeSlice 22 (.int .i64 32) (.int .i64 32)).run Try.prog w = .ok (.slice (some ⟨w.heap.size, 0, none⟩) 32 32) (w.alloc (.cells Z1 5)) := hmk
  have HC := hidden (fun W => reduced_any L hL W)
  have HIL := hidden (infoE L hL.len)
  obtain ⟨hr1, hr2, hr3⟩ := red_bits (num B51 L)
  rw [outK_toK] at hr3
  have hlen := dig_len B51 5 (num B51 L % (pN : Int))
  have HS := hidden (fun i (hi : i < 255) => byL_step (num B51 L % (pN : Int)) i hi)
  have H0 := Is.mk (byL_zero (num B51 L % (pN : Int)))
  have HLN := hidden (fun i => byL_len (num B51 L % (pN : Int)) i)
  have HVB := hidden (fun i => vbit_rng (num B51 L % (pN : Int)) i)
  have HE := Is.mk hr3
  have HB := hidden hr2
  have HLL := Is.mk hL.len
  have HFE : Is (toK (num B51 L)) (fe L) := ⟨rfl⟩
  rw [HFE.eq] at HE
  generalize dig B51 5 (num B51 L % (pN : Int)) = R at *
  generalize num B51 L % (pN : Int) = v at *
  generalize outK (fe L) = OUT at *
  have HRX := hidden (fun j (hj : j < 5) => hr1 (R.getD j 0) (by rw [List.getD_eq_getElem?_getD]; simp [show j < R.length by omega]))
  have HRL := Is.mk hlen
  have HIR := hidden (infoE R hlen)
  have HZR : Hid ((ints .u64 L).size = (ints .u64 R).size) := by show _ = _; rw [ints_size, ints_size, hL.len, hlen]
  clear hi hz0 hz1 hz2 hmk hr1 hr2 hr3 hlen hL HFE
  generalize hSL : ints .u64 L = SL at *
  have HSL := Is.mk hSL
  clear hSL
  go_enter Try.func19, Try.ntmps19
  go_upto_region 2 with fail
  generalize hw1 : World.alloc _ (.cells Z1 5) = w1
  have hA : Wn .u64 w1 w.heap.size 42 L := by
    rw [← hw1]
    exact (Wn.new .u64 w 42 L _ HSL.eq.symm).alloc _
  have hO : Wb w1 (w.heap.size + 1) 5 (byL v 0) := by
    have := Wb.new (w.alloc (.cells SL 42)) 5 (List.replicate 32 0) Z1 HZ1.out
    rw [World.size_alloc, hw1] at this
    rw [H0.eq]
    exact this
  have hb : Below w.heap.size w w1 := by
    rw [← hw1]
    exact ((Below.refl _ w).alloc (Nat.le_refl _) _).alloc (by simp) _
  clear hw1 hmk1
  obtain ⟨n, hn⟩ : ∃ n, w.heap.size = n := ⟨_, rfl⟩
  simp only [hn] at hA hO hb ⊢
  have HN := hidden hn
  have HA := hidden hA
  have HAH : Hid (w1.heap[n]? = some (.cells SL 42 (0, 0))) := by rw [← HSL.eq]; exact hidden hA.heap
  have HO := hidden hO
  have HBB := hidden hb
  clear hA hO hb hn
  go_upto_region 3 with (first
    | (refine wpList_load_row rfl 42 _ rfl n rfl 42 SL (0, 0) _ HAH.out Try.underlying42 rfl HIL.out ?_)
    | (go_at_call 34; (with_reducible refine (HC.out _).mono ?_); rintro e4 w4 ⟨rfl, hb4⟩; have HA4 := hidden (HA.out.below hb4); have HO4 := hidden (HO.out.below hb4); have HB4 := hidden (HBB.out.trans (hb4.mono (Nat.le_of_lt HA.out.lt))); have HAH4 : Hid (w4.heap[n]? = some (.cells SL 42 (0, 0))) := (by rw [← HSL.eq]; exact hidden HA4.out.heap); clear hb4)
    | (refine wpList_store_row rfl 42 _ _ rfl n (ints .u64 R) rfl rfl 42 _ HAH4.out HIR.out HZR.out (onek .u64 R) ?_)
    | fail)
  have HA5 := hidden (HA4.out.row R)
  have HO5 : Hid (Wb (w4.setRow n (ints .u64 R)) (n + 1) 5 (byL v 0)) := ⟨by rw [setRow_other _ _ _ _ (by omega)]; exact HO4.out.heap⟩
  have HB5 := hidden (below_setRow HB4.out (Nat.le_refl n) (ints .u64 R))
  clear HA HAH HO HBB HA4 HAH4 HO4 HB4 HC
  generalize World.setRow w4 _ _ = w5 at *
  go_wp2
  go_loopw [8] (fun i wr => ∃ (j : Nat), j ≤ 255 ∧ i = .int .i64 j ∧ Wn .u64 wr n 42 R ∧ Wb wr (n + 1) 5 (byL v j) ∧ Below n w wr) (fun i _ => 255 - (intOf i).toNat)
  case atStart => exact ⟨0, by omega, rfl, HA5.out, HO5.out, HB5.out⟩
  case round =>
    obtain ⟨i, hi, rfl, ha, ho, hb⟩ := hrel
    have HA := hidden ha
    have HO := hidden ho
    have HBB := hidden hb
    clear ha ho hb HA5 HO5 HB5
    by_cases hlt : i < 255
    · have hq : i / 51 < 5 := by omega
      have hq8 : i / 8 < 32 := by omega
      have hcx := HA.out.cell (i / 51) (by rw [HRL.eq]; exact hq)
      have hcy := HO.out.cell (i / 8) (by rw [HLN.out]; exact hq8)
      have hfy := HO.out.fr (i / 8)
      have hrx := HRX.out (i / 51) hq
      have hbit := HB.out i hlt
      obtain ⟨hst, hs0, hs1⟩ := HS.out i hlt
      have hvb := HVB.out i
      have HO2 : Hid (Wb (wr.setCell ⟨n + 1, i / 8, none⟩ (.int .u8 ((byL v i).getD (i / 8) 0 + vbit v i * 2 ^ (i % 8)))) (n + 1) 5 ((byL v i).set (i / 8) ((byL v i).getD (i / 8) 0 + vbit v i * 2 ^ (i % 8)))) := hidden ⟨by rw [heap_setCell_same wr _ _ _ _ _ HO.out.heap]; simp [List.map_set]⟩
      rw [hst] at HO2
      generalize R.getD (i / 51) 0 = x at *
      generalize (byL v i).getD (i / 8) 0 = y at *
      generalize vbit v i = b at *
      have hsh := shr_le x (i % 51) 2251799813685248 hrx.1 hrx.2
      have hand := and1_u64 (x / 2 ^ (i % 51)) hsh.1 (by omega)
      rw [hbit] at hand
      obtain ⟨hor, hwsh⟩ := or_add8 y b (i % 8) (by omega) hs0 hs1 hvb
      have hcv : IntKind.u8.wrap b = b := by rw [IntKind.wrap_u8]; omega
      have b0 : (i : Int) < 255 := by omega
      have b1 : (0 : Int) ≤ (i : Int) := by omega
      have b2 : (i : Int) / 51 < 5 := by omega
      have b3 : (0 : Int) ≤ (i : Int) / 51 := by omega
      have b4 : ((i : Int) / 51).toNat = i / 51 := by omega
      have b5 : (0 : Int) ≤ (i : Int) % 51 := by omega
      have b6 : IntKind.i64.wrap ((i : Int) / 51) = (i : Int) / 51 := wraps_i64 _ (by omega) (by omega)
      have b7 : (i : Int).tmod 51 = (i : Int) % 51 := Int.tmod_eq_emod_of_nonneg (by omega)
      have b8 : ((i : Int) % 51).toNat = i % 51 := by omega
      have c2 : (i : Int) / 8 < 32 := by omega
      have c3 : (0 : Int) ≤ (i : Int) / 8 := by omega
      have c4 : ((i : Int) / 8).toNat = i / 8 := by omega
      have c5 : (0 : Int) ≤ (i : Int) % 8 := by omega
      have c6 : IntKind.i64.wrap ((i : Int) / 8) = (i : Int) / 8 := wraps_i64 _ (by omega) (by omega)
      have c7 : (i : Int).tmod 8 = (i : Int) % 8 := Int.tmod_eq_emod_of_nonneg (by omega)
      have c8 : ((i : Int) % 8).toNat = i % 8 := by omega
      have d1 : ¬ n = n + 1 := by omega
      have d2 : ¬ n + 1 = n := by omega
      clear hst hs0 hs1 hbit hrx hsh
      go_upto_region 6 with fail
      go_region
      all_goals
        have HA2 : Hid (Wn .u64 ((wr.setCell ⟨n + 1, i / 8, none⟩ (.int .u8 (y + b * 2 ^ (i % 8)))).drew) n 42 R) := hidden ((HA.out.other _ _ d1).drew)
        have HB2 : Hid (Below n w ((wr.setCell ⟨n + 1, i / 8, none⟩ (.int .u8 (y + b * 2 ^ (i % 8)))).drew)) := hidden ((HBB.out.setCell (by simp) _).drew)
        have HO3 := hidden (HO2.out.drew)
        clear HO2 HO HA HBB hcx hcy hfy hor hwsh hvb hand
        generalize World.drew _ = w7 at *
        go_wp2
        go_roundw
        case rel => exact ⟨i + 1, by omega, by go_num, HA2.out, HO3.out, HB2.out⟩
        case measure => simp [intOf]; omega
    · have hi5 : i = 255 := by omega
      have hge : ¬ (i : Int) < 255 := by omega
      have ho := HO.out
      rw [hi5, HE.eq] at ho
      have HOE := hidden ho
      clear hi5 ho HO
      go_wp2
      go_ret
      exact ⟨n + 1, rfl, by rw [HN.out]; omega, HOE.out, by rw [HN.out]; exact HBB.out⟩
end Go.Proofs.Ytilnbmlbahflkaa
