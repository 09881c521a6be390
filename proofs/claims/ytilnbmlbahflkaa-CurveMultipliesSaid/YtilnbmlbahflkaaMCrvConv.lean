/-
  curve: bits, and the elements that bytes stand for.
-/
import Derived.Test.YtilnbmlbahflkaaMCrvProd
import Derived.Test.YtilnbmlbahflkaaMCrvBits
import Derived.Test.YtilnbmlbahflkaaMPrfWb
import Derived.Deep.RegionHeld3
namespace Go.Proofs.Ytilnbmlbahflkaa
open Go.RowKit
set_option linter.unusedVariables false

theorem and1_u8 (x : Int) (h0 : 0 ≤ x) (h1 : x < 256) : bits .and .u8 x 1 = x % 2 :=
  bits_mask .u8 8 (by decide) (fun n h0 h1 => by rw [IntKind.wrap_u8]; omega) 1 (by decide) x h0 h1
theorem shr_rng (x : Int) (n : Nat) (h0 : 0 ≤ x) (h1 : x < 256) : 0 ≤ x / 2 ^ n ∧ x / 2 ^ n < 256 := by
  have hp := two_pos n
  refine ⟨Int.ediv_nonneg h0 (Int.le_of_lt hp), ?_⟩
  refine Int.lt_of_le_of_lt (Int.ediv_le_self _ h0) h1

set_option maxHeartbeats 800000 in
theorem bitOf_any (p : Option Addr) (n c : Nat) (xs : List Int) (w : World) (h : Byt w p n c xs) (i : Nat) (hi : i < 8 * n) :
    Calls Try.prog 16 #[.slice p n c, .int .i64 i] w fun e w' => e = .returned (.int .u64 (xs.getD (i / 8) 0 / 2 ^ (i % 8) % 2)) ∧ w' = w := by
  have hlen := h.len
  have hq : i / 8 < n := by omega
  obtain ⟨b, o, rfl, hc⟩ := h.at_ (by omega)
  have hx := h.rng (xs.getD (i / 8) 0) (by rw [List.getD_eq_getElem?_getD]; simp [show i / 8 < xs.length by omega])
  have hcx : w.cell? ⟨b, o + i / 8, none⟩ = some (.int .u8 (xs.getD (i / 8) 0)) := hc (i / 8) (by omega)
  have e : xs.getD (i / 8) 0 = xs[i / 8] := by rw [List.getD_eq_getElem?_getD]; simp [show i / 8 < xs.length by omega]
  rw [e] at hx hcx ⊢
  have hbig := h.le
  have hcap := h.cap
  generalize xs[i / 8] = x at *
  have hand := and1_u8 (x / 2 ^ (i % 8)) (shr_rng x _ hx.1 (by omega)).1 (shr_rng x _ hx.1 (by omega)).2
  have hwr : IntKind.u64.wrap (x / 2 ^ (i % 8) % 2) = x / 2 ^ (i % 8) % 2 := by rw [IntKind.wrap_u64]; omega
  have hi0 : (0 : Int) ≤ (i : Int) := by omega
  have h8 : (i : Int) / 8 < (n : Int) := by omega
  clear e hc
  go_enter Try.func16, Try.ntmps16
  go_wp2
  go_ret
  exact ⟨rfl, rfl⟩
/-- The bit i of bytes. -/
def bitB (xs : List Int) (i : Nat) : Int := xs.getD (i / 8) 0 / 2 ^ (i % 8) % 2
theorem bitB_num (xs : List Int) (h : ∀ x ∈ xs, 0 ≤ x ∧ x ≤ 255) (i : Nat) (hi : i < 8 * xs.length) : bitB xs i = vbit (num 256 xs) i := by
  unfold bitB
  rw [show (256 : Int) = 2 ^ 8 by decide, num_bit 8 xs i (by decide) hi (fun x hx => by have := h x hx; rw [show (2 : Int) ^ 8 = 256 by decide]; omega)]
theorem or_add (x b : Int) (s : Nat) (hs : s < 51) (h0 : 0 ≤ x) (h1 : x < 2 ^ s) (hb : b = 0 ∨ b = 1) : bits .or .u64 x (b * 2 ^ s) = x + b * 2 ^ s := by
  have hp := two_pos s
  have hle : (2 : Int) ^ s ≤ 2 ^ 50 := by
    have e : (2 : Int) ^ 50 = 2 ^ s * 2 ^ (50 - s) := by rw [← Int.pow_add]; congr 1; omega
    rw [e]
    exact le_mul_one (by omega) (by have := two_pos (50 - s); omega)
  have h50 : (2 : Int) ^ 50 = 1125899906842624 := by decide
  rcases hb with rfl | rfl
  · rw [Int.zero_mul, u64_or x 0 h0 (by omega) (by decide) (by decide)]
    simp
    omega
  · rw [Int.one_mul, u64_or x (2 ^ s) h0 (by omega) (by omega) (by omega), Nat.or_comm]
    have hn : ((2 : Int) ^ s).toNat = 2 ^ s := by
      have : ((2 ^ s : Nat) : Int) = (2 : Int) ^ s := by simp
      omega
    rw [hn, nat_join s (2 ^ s) x.toNat (Nat.mod_self _) (by omega)]
    omega
theorem shl_wrap (b : Int) (s : Nat) (hs : s < 51) (hb : b = 0 ∨ b = 1) : IntKind.u64.wrap (b * 2 ^ s) = b * 2 ^ s := by
  have hp := two_pos s
  have hle : (2 : Int) ^ s ≤ 2 ^ 50 := by
    have e : (2 : Int) ^ 50 = 2 ^ s * 2 ^ (50 - s) := by rw [← Int.pow_add]; congr 1; omega
    rw [e]
    exact le_mul_one (by omega) (by have := two_pos (50 - s); omega)
  have h50 : (2 : Int) ^ 50 = 1125899906842624 := by decide
  rw [IntKind.wrap_u64]
  rcases hb with rfl | rfl <;> omega
/-- The limbs of the lowest i bits of a number. -/
def elL (v : Int) (i : Nat) : List Int := dig B51 5 (v % 2 ^ i)
theorem elL_zero (v : Int) : elL v 0 = List.replicate 5 0 := by unfold elL; rw [Int.pow_zero, Int.emod_one, dig_zero]
theorem elL_len (v : Int) (i : Nat) : (elL v i).length = 5 := dig_len _ _ _
theorem elL_step (v : Int) (i : Nat) (hi : i < 255) : (elL v i).set (i / 51) ((elL v i).getD (i / 51) 0 + vbit v i * 2 ^ (i % 51)) = elL v (i + 1) ∧ 0 ≤ (elL v i).getD (i / 51) 0 ∧ (elL v i).getD (i / 51) 0 < 2 ^ (i % 51) := by
  unfold elL
  rw [show B51 = 2 ^ 51 by decide]
  exact dig_bit 51 5 v i (by decide) (by omega)
theorem elL_end (v : Int) : Lw m1 (elL v 255) ∧ fe (elL v 255) = toK (v % 2 ^ 255) := by
  constructor
  · refine ⟨dig_len _ _ _, fun x hx => ?_⟩
    have := dig_rng B51 B51_pos _ _ x hx
    unfold B51 at this
    unfold m1
    omega
  · unfold fe elL
    rw [num_dig B51 B51_pos, show B51 ^ 5 = 2 ^ 255 by decide, Int.emod_emod]

set_option maxHeartbeats 1600000 in
set_option maxRecDepth 100000 in
theorem elementOf_any (p : Option Addr) (c : Nat) (xs : List Int) (w : World) (h : Byt w p 32 c xs) :
    Calls Try.prog 15 #[.slice p 32 c] w fun e w' => ∃ L, e = .returned (.agg (ints .u64 L)) ∧ Lw m1 L ∧ fe L = toK (num 256 xs % 2 ^ 255) ∧ Below w.heap.size w w' := by
  have HC := hidden (fun W (hW : Below w.heap.size w W) i (hi : i < 255) => bitOf_any p 32 c xs W (h.below hW) i (by omega))
  have HBT := hidden (fun i (hi : i < 255) => bitB_num xs h.rng i (by rw [h.len]; omega))
  obtain ⟨v, hv⟩ : ∃ v, num 256 xs = v := ⟨_, rfl⟩
  rw [hv] at HBT ⊢
  have HS := hidden (fun i (hi : i < 255) => elL_step v i hi)
  have HVB := hidden (fun i => vbit_rng v i)
  have HE := hidden (elL_end v)
  have H0 := Is.mk (elL_zero v)
  have HLN := hidden (fun i => elL_len v i)
  clear hv h
  go_enter Try.func15, Try.ntmps15
  go_upto_region 2 with fail
  generalize hw1 : World.alloc _ (.cells _ 42) = w1
  have hZ : Wn .u64 w1 w.heap.size 42 (List.replicate 5 0) := by
    rw [← hw1]
    exact (Wn.new .u64 w 42 (List.replicate 5 0) _ rfl).alloc _
  have hO : Wn .u64 w1 (w.heap.size + 1) 42 (elL v 0) := by
    rw [← hw1, H0.eq]
    exact Wn.new' .u64 _ 42 (List.replicate 5 0) _ rfl _ (by simp)
  have hb : Below w.heap.size w w1 := by
    rw [← hw1]
    exact ((Below.refl _ w).alloc (Nat.le_refl _) _).alloc (by simp) _
  clear hw1
  obtain ⟨n, hn⟩ : ∃ n, w.heap.size = n := ⟨_, rfl⟩
  simp only [hn] at hZ hO hb HC ⊢
  have HN := hidden hn
  have HZ0 := hidden hZ
  have HO0 := hidden hO
  have HB0 := hidden hb
  clear hZ hO hb hn
  go_wp2
  go_loopw [5] (fun i wr => ∃ (j : Nat), j ≤ 255 ∧ i = .int .i64 j ∧ Wn .u64 wr n 42 (List.replicate 5 0) ∧ Wn .u64 wr (n + 1) 42 (elL v j) ∧ Below n w wr) (fun i _ => 255 - (intOf i).toNat)
  case atStart => exact ⟨0, by omega, rfl, HZ0.out, HO0.out, HB0.out⟩
  case round =>
    obtain ⟨i, hi, rfl, hz, ho, hb⟩ := hrel
    have HZ := hidden hz
    have HO := hidden ho
    have HB := hidden hb
    clear hz ho hb HZ0 HO0 HB0
    by_cases hlt : i < 255
    · have hq : i / 51 < 5 := by omega
      have hcx := HO.out.cell (i / 51) (by rw [HLN.out]; exact hq)
      have hfx := HO.out.fr (i / 51)
      obtain ⟨hst, hs0, hs1⟩ := HS.out i hlt
      have hvb := HVB.out i
      have hcc := HC.out wr.drew HB.out.drew i hlt
      have hbt := HBT.out i hlt
      unfold bitB at hbt
      rw [hbt] at hcc
      have HO2 := hidden (HO.out.set (i / 51) ((elL v i).getD (i / 51) 0 + vbit v i * 2 ^ (i % 51)))
      rw [hst] at HO2
      generalize (elL v i).getD (i / 51) 0 = s at *
      generalize vbit v i = b at *
      have hor := or_add s b (i % 51) (by omega) hs0 hs1 hvb
      have hwsh := shl_wrap b (i % 51) (by omega) hvb
      have HCC := hidden hcc
      have b0 : (i : Int) < 255 := by omega
      have b1 : (0 : Int) ≤ (i : Int) := by omega
      have b2 : (i : Int) / 51 < 5 := by omega
      have b3 : (0 : Int) ≤ (i : Int) / 51 := by omega
      have b4 : ((i : Int) / 51).toNat = i / 51 := by omega
      have b6 : IntKind.i64.wrap ((i : Int) / 51) = (i : Int) / 51 := wraps_i64 _ (by omega) (by omega)
      have b5 : (0 : Int) ≤ (i : Int) % 51 := by omega
      have b7 : (i : Int).tmod 51 = (i : Int) % 51 := Int.tmod_eq_emod_of_nonneg (by omega)
      have b8 : ((i : Int) % 51).toNat = i % 51 := by omega
      clear hst hs0 hs1 hbt hcc
      go_upto_region 5 with fail
      go_region_with (first
        | (go_at_call 16; (with_reducible refine (HCC.out).mono ?_); rintro e4 w4 ⟨rfl, rfl⟩)
        | fail)
      all_goals
        have HZ2 : Hid (Wn .u64 ((wr.setCell ⟨n + 1, i / 51, none⟩ (.int .u64 (s + b * 2 ^ (i % 51)))).drew) n 42 (List.replicate 5 0)) := hidden ((HZ.out.other _ _ (by simp)).drew)
        have HB2 : Hid (Below n w ((wr.setCell ⟨n + 1, i / 51, none⟩ (.int .u64 (s + b * 2 ^ (i % 51)))).drew)) := hidden ((HB.out.setCell (by simp) _).drew)
        have HO3 := hidden (HO2.out.drew)
        clear HO2 HO HZ HB hcx hfx hor hwsh hvb
        generalize World.drew _ = w5 at *
        go_wp2
        go_roundw
        case rel => exact ⟨i + 1, by omega, by go_num, HZ2.out, HO3.out, HB2.out⟩
        case measure => simp [intOf]; omega
    · have hi5 : i = 255 := by omega
      have hge : ¬ (i : Int) < 255 := by omega
      have ho := HO.out
      rw [hi5] at ho
      have HOE := hidden ho
      obtain ⟨hl, hf⟩ := HE.out
      have HL := hidden hl
      have HF := hidden hf
      have HIR := hidden (infoE _ hl.len)
      have HZR := hidden (zero5 _ hl.len)
      clear hi5 ho hl hf HO
      generalize elL v 255 = R at *
      go_wp2_with (first
        | (refine wpList_load_row rfl 42 _ rfl (n + 1) rfl 42 _ (0, 0) _ HOE.out.heap Try.underlying42 rfl HIR.out ?_)
        | (refine wpList_store_row rfl 42 _ _ rfl n (ints .u64 R) rfl rfl 42 _ HZ.out.heap HIR.out HZR.out (onek .u64 R) ?_)
        | fail)
      refine bodyPost_ret (results_cell_row rfl _ _ n 42 _ _ _ rfl (HZ.out.row R).heap Try.underlying42 rfl HIR.out) rfl ?_
      exact ⟨R, rfl, HL.out, HF.out, by rw [HN.out]; exact below_setRow HB.out (Nat.le_refl _) _⟩
end Go.Proofs.Ytilnbmlbahflkaa
