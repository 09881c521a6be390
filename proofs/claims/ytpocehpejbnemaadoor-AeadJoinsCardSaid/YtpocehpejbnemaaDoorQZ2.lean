/-
  The document's own arithmetic modulo 2^130 - 5 in 17 digits (pure).
  The document's clamp and carry.
  The document's carry.
  The document's product modulo 2^130 - 5.
-/
import Derived.Test.YtpocehpejbnemaaDoorQPolyOne
import Derived.Test.YtpocehpejbnemaaDoorQZ1
namespace Go.Proofs.YtpocehpejbnemaaDoor
open Go.RowKit
set_option linter.unusedVariables false

theorem p16 : (256 : Int) ^ 16 = 340282366920938463463374607431768211456 := by decide
theorem p17 : (256 : Int) ^ 17 = 87112285931760246646623899502532662132736 := by decide
theorem split16 (H : List Int) (h : H.length = 17) : num 256 H = num 256 (H.take 16) + 256 ^ 16 * H.getD 16 0 := by
  have := num_take 256 H 16 (by omega)
  rw [List.take_of_length_le (by omega)] at this
  exact this
/-- The digits after a round, but for what counts five times. -/
def finR (H : List Int) : List Int := dig 256 16 (num 256 (H.take 16)) ++ [(outB H 16 + H.getD 16 0) % 4]
def roundR (H : List Int) : List Int := (finR H).set 0 ((finR H).getD 0 0 + 5 * ((outB H 16 + H.getD 16 0) / 4))
theorem finR_len (H : List Int) : (finR H).length = 17 := by simp [finR, dig_len]
theorem roundR_len (H : List Int) : (roundR H).length = 17 := by simp [roundR, finR_len]
theorem top16 (H : List Int) (h : H.length = 17) : outB H 16 + H.getD 16 0 = num 256 H / 256 ^ 16 := by
  rw [split16 H h, Int.add_mul_ediv_left _ _ (by decide)]
  rfl
theorem finR_num (H : List Int) (h : H.length = 17) : num 256 (finR H) = num 256 H % 1361129467683753853853498429727072845824 := by
  unfold finR
  rw [num_append, num_dig 256 (by omega), dig_len, top16 H h]
  have h1 : num 256 (H.take 16) % 256 ^ 16 = num 256 H % 256 ^ 16 := by rw [split16 H h, Int.add_mul_emod_self_left]
  rw [h1, p16]
  simp only [num]
  omega
theorem finR_get (H : List Int) (i : Nat) (hi : i < 16) : 0 ≤ (finR H).getD i 0 ∧ (finR H).getD i 0 ≤ 255 := by
  unfold finR
  rw [List.getD_eq_getElem?_getD, List.getElem?_append_left (by rw [dig_len]; exact hi), ← List.getD_eq_getElem?_getD, dig_getD 256 (by omega) _ _ _ hi]
  omega
theorem finR_top (H : List Int) : 0 ≤ (finR H).getD 16 0 ∧ (finR H).getD 16 0 ≤ 3 := by
  have e : (finR H).getD 16 0 = (outB H 16 + H.getD 16 0) % 4 := by
    unfold finR
    rw [List.getD_eq_getElem?_getD, List.getElem?_append_right (by rw [dig_len]; omega), dig_len]
    rfl
  rw [e]
  omega
theorem roundR_num (H : List Int) (h : H.length = 17) : num 256 (roundR H) = num 256 H - num 256 H / 1361129467683753853853498429727072845824 * P130 := by
  unfold roundR
  rw [num_set _ _ _ (by rw [finR_len]; omega), finR_num H h, top16 H h, p16]
  have : num 256 H / 340282366920938463463374607431768211456 / 4 = num 256 H / 1361129467683753853853498429727072845824 := by omega
  rw [this]
  unfold P130
  simp
  omega
/-- What is known of the digits before the round r. -/
structure InvR (r : Nat) (H : List Int) : Prop where
  len : H.length = 17
  all : ∀ i, 0 ≤ H.getD i 0 ∧ H.getD i 0 < 2147483648
  r0 : r = 0 → ∀ i, H.getD i 0 < 1073741824
  r1 : 1 ≤ r → (∀ i, 1 ≤ i → H.getD i 0 ≤ 255) ∧ H.getD 16 0 ≤ 3
  r2 : 2 ≤ r → num 256 H < 1361129467683753853853498429727072845824
  r3 : 3 ≤ r → H.getD 0 0 ≤ 255
theorem num_le (l : List Int) (m : Int) (hm : 0 ≤ m) (h : ∀ i, 0 ≤ l.getD i 0 ∧ l.getD i 0 ≤ m) : 0 ≤ num 256 l ∧ 255 * num 256 l ≤ m * (256 ^ l.length - 1) := by
  induction l with
  | nil => simp [num]
  | cons x l ih =>
    have h0 := h 0
    have ih := ih (fun i => by have := h (i + 1); simpa using this)
    simp at h0
    simp only [num, List.length_cons, Int.pow_succ]
    obtain ⟨i1, i2⟩ := ih
    generalize num 256 l = v at *
    generalize (256 : Int) ^ l.length = p at *
    refine ⟨by omega, ?_⟩
    have : m * (p * 256 - 1) = 256 * (m * (p - 1)) + 255 * m := by grind
    rw [this]
    omega
theorem num17 (H : List Int) (h : H.length = 17) (m : Int) (hm : 0 ≤ m) (ha : ∀ i, 0 ≤ H.getD i 0 ∧ H.getD i 0 ≤ m) : 0 ≤ num 256 H ∧ 255 * num 256 H ≤ m * 87112285931760246646623899502532662132735 := by
  have := num_le H m hm ha
  rw [h, p17] at this
  exact this
theorem InvR.first (r : Nat) (H : List Int) (hr : 1 ≤ r) (h : InvR r H) : num 256 H - H.getD 0 0 < 1361129467683753853853498429727072845824 - 255 ∧ 0 ≤ num 256 H - H.getD 0 0 := by
  have hl := h.len
  match H, hl with
  | x :: l, hl =>
    have h1 := (h.r1 hr).1
    have h2 := (h.r1 hr).2
    have ha := h.all
    have hll : l.length = 16 := by simpa using hl
    have e1 : num 256 l = num 256 (l.take 15) + 256 ^ 15 * l.getD 15 0 := by
      have := num_take 256 l 15 (by omega)
      rw [List.take_of_length_le (by omega)] at this
      exact this
    have hr : ∀ y ∈ l.take 15, 0 ≤ y ∧ y < 256 := fun y hy => by
      obtain ⟨i, hi, rfl⟩ := List.getElem_of_mem hy
      have hi' : i < 15 := by simp at hi; omega
      have k1 := h1 (i + 1) (by omega)
      have k2 := ha (i + 1)
      simp only [List.getD_cons_succ] at k1 k2
      rw [List.getD_eq_getElem?_getD, List.getElem?_eq_getElem (by omega)] at k1 k2
      simp at k1 k2 ⊢
      omega
    have h3 := num_lt (b := 256) (by omega) _ hr
    have h4 := num_nonneg (b := 256) (by omega) _ (fun y hy => (hr y hy).1)
    have h5 := ha 16
    simp only [List.getD_cons_succ] at h2 h5
    have e2 : (256 : Int) ^ 15 = 1329227995784915872903807060280344576 := by decide
    rw [List.length_take, show min 15 l.length = 15 by omega, e2] at h3
    simp only [num, List.getD_cons_zero]
    rw [e1, e2]
    omega
theorem InvR.round (r : Nat) (H : List Int) (hr : r < 3) (h : InvR r H) : InvR (r + 1) (roundR H) := by
  have hl := h.len
  have hn := roundR_num H hl
  have hv : 0 ≤ num 256 H := num_nonneg (by omega) H (fun x hx => by
    obtain ⟨i, hi, rfl⟩ := List.getElem_of_mem hx
    have := (h.all i).1
    rw [List.getD_eq_getElem?_getD, List.getElem?_eq_getElem hi] at this
    simpa using this)
  have e0 : (outB H 16 + H.getD 16 0) / 4 = num 256 H / 1361129467683753853853498429727072845824 := by rw [top16 H hl, p16]; omega
  have g0 : (roundR H).getD 0 0 = (finR H).getD 0 0 + 5 * (num 256 H / 1361129467683753853853498429727072845824) := by
    unfold roundR
    rw [getD_setP _ _ _ _ (by rw [finR_len]; omega), if_pos rfl, e0]
  have gi : ∀ i, 1 ≤ i → i < 17 → (roundR H).getD i 0 = (finR H).getD i 0 := fun i h1 h2 => by
    unfold roundR
    rw [getD_setP _ _ _ _ (by rw [finR_len]; omega), if_neg (by omega)]
  have go : ∀ i, 17 ≤ i → (roundR H).getD i 0 = 0 := fun i hi => by
    rw [List.getD_eq_getElem?_getD, List.getElem?_eq_none (by rw [roundR_len]; omega)]; rfl
  have f0 := finR_get H 0 (by omega)
  have ft := finR_top H
  have hq : 0 ≤ num 256 H / 1361129467683753853853498429727072845824 ∧ (r = 0 → num 256 H / 1361129467683753853853498429727072845824 ≤ 280000000) ∧ (1 ≤ r → num 256 H / 1361129467683753853853498429727072845824 ≤ 1) ∧ (2 ≤ r → num 256 H / 1361129467683753853853498429727072845824 = 0) := by
    refine ⟨by omega, fun h0 => ?_, fun h1 => ?_, fun h2 => ?_⟩
    · have h2 := num17 H hl 1073741823 (by omega) (fun i => ⟨(h.all i).1, by have := h.r0 h0 i; omega⟩)
      omega
    · have h2 := h.first r H h1
      have h3 := h.all 0
      omega
    · have := h.r2 h2
      omega
  obtain ⟨q0, q1, q2, q3⟩ := hq
  refine ⟨roundR_len H, fun i => ?_, fun hh => by omega, fun _ => ⟨fun i hi => ?_, ?_⟩, fun hh => ?_, fun hh => ?_⟩
  · by_cases hi0 : i = 0
    · subst hi0
      rw [g0]
      have : r = 0 ∨ 1 ≤ r := by omega
      rcases this with h0 | h1
      · have := q1 h0; omega
      · have := q2 h1; omega
    · by_cases hi : i < 16
      · rw [gi i (by omega) (by omega)]
        have := finR_get H i hi
        omega
      · by_cases hi' : i = 16
        · subst hi'; rw [gi 16 (by omega) (by omega)]; omega
        · rw [go i (by omega)]; omega
  · by_cases hi' : i < 16
    · rw [gi i hi (by omega)]
      exact (finR_get H i hi').2
    · by_cases hi'' : i = 16
      · subst hi''; rw [gi 16 (by omega) (by omega)]; omega
      · rw [go i (by omega)]; omega
  · rw [gi 16 (by omega) (by omega)]; exact ft.2
  · rw [hn]
    have k1 := h.first r H (by omega)
    have k2 := h.all 0
    have k3 := q2 (by omega)
    unfold P130
    have : num 256 H / 1361129467683753853853498429727072845824 = 0 ∨ num 256 H / 1361129467683753853853498429727072845824 = 1 := by omega
    rcases this with k4 | k4
    · rw [k4]; omega
    · rw [k4]; omega
  · rw [g0, q3 (by omega)]
    omega
/-- Digits that have been carried. -/
structure Nrm (H : List Int) : Prop where
  len : H.length = 17
  dig : ∀ i, 0 ≤ H.getD i 0 ∧ H.getD i 0 ≤ 255
  lt : num 256 H < 1361129467683753853853498429727072845824
theorem InvR.nrm {H : List Int} (h : InvR 3 H) : Nrm H :=
  ⟨h.len, fun i => ⟨(h.all i).1, by
    rcases Nat.eq_zero_or_pos i with rfl | hi
    · exact h.r3 (by omega)
    · exact (h.r1 (by omega)).1 i hi⟩, h.r2 (by omega)⟩
end Go.Proofs.YtpocehpejbnemaaDoor

namespace Go.Proofs.YtpocehpejbnemaaDoor
open Go.RowKit
set_option linter.unusedVariables false

theorem infoR17 : (Tryd.prog.info? 123).map (·.size) = some 17 := by kernel_rfl
theorem infoRL (l : List Int) (h : l.length = 17) : (Tryd.prog.info? 123).map (·.size) = some (ints .u32 l).size := by rw [infoR17, ints_size, h]
theorem zeroRL (l : List Int) (h : l.length = 17) : (ints .u32 (List.replicate 17 (0 : Int))).size = (ints .u32 l).size := by rw [ints_size, ints_size, h]; rfl
theorem and15w (x : Int) (h0 : 0 ≤ x) (h1 : x ≤ 255) : bits .and .u32 x 15 = x % 16 := by
  have : ∀ n : Fin 256, bits .and .u32 (n.val : Int) 15 = (n.val : Int) % 16 := by decide +kernel
  have h := this ⟨x.toNat, by omega⟩
  simp only at h
  rwa [show ((x.toNat : Nat) : Int) = x by omega] at h
theorem and252w (x : Int) (h0 : 0 ≤ x) (h1 : x ≤ 255) : bits .and .u32 x 252 = x - x % 4 := by
  have : ∀ n : Fin 256, bits .and .u32 (n.val : Int) 252 = (n.val : Int) - (n.val : Int) % 4 := by decide +kernel
  have h := this ⟨x.toNat, by omega⟩
  simp only at h
  rwa [show ((x.toNat : Nat) : Int) = x by omega] at h
theorem and255w (x : Int) (h0 : 0 ≤ x) (h1 : x < 4294967296) : bits .and .u32 x 255 = x % 256 :=
  bits_mask .u32 32 (by decide) (fun n h0 h1 => by rw [IntKind.wrap_u32']; omega) 8 (by decide) x h0 h1
theorem and3w (x : Int) (h0 : 0 ≤ x) (h1 : x < 4294967296) : bits .and .u32 x 3 = x % 4 :=
  bits_mask .u32 32 (by decide) (fun n h0 h1 => by rw [IntKind.wrap_u32']; omega) 2 (by decide) x h0 h1

set_option maxHeartbeats 1600000 in
set_option maxRecDepth 100000 in
theorem rclamp_any (p : Option Addr) (n c : Nat) (xs : List Int) (w : World) (h : Byt w p n c xs) (hn : 16 ≤ n) :
    Calls Tryd.prog 81 #[.slice p n c] w fun e w' => e = .returned (.agg (ints .u32 (clampL xs 16 ++ [0]))) ∧ Below w.heap.size w w' := by
  obtain ⟨b, o, rfl, hc⟩ := h.at_ (by omega)
  have HC := hidden hc
  have HR := hidden (fun j => rng_getD h.rng j)
  have hcap := h.cap
  have hle := h.le
  have HB := hidden (fun (wr : World) (hb : Below w.heap.size w wr) (j : Nat) (hj : j < n) => cell_below hb _ _ (hc j hj))
  have hlb := World.block_lt_of_cell? w _ (hc 0 (by omega))
  simp only at hlb
  obtain ⟨R, hR⟩ : ∃ R, clampL xs 16 ++ [0] = R := ⟨_, rfl⟩
  have HRE := Is.mk hR
  have hRl : R.length = 17 := by rw [← hR]; simp [clampL_len]
  have HIR := hidden (infoRL R hRl)
  have HZR := hidden (zeroRL R hRl)
  rw [hR]
  clear h hc hR hRl
  go_enter Tryd.func81, Tryd.ntmps81
  go_upto_region 2 with fail
  generalize hw1 : World.alloc _ (.cells _ 123) = w1
  have hZ : Wn .u32 w1 w.heap.size 123 (List.replicate 17 0) := by
    rw [← hw1]
    exact (Wn.new .u32 w 123 (List.replicate 17 0) _ rfl).alloc _
  have hA : Wn .u32 w1 (w.heap.size + 1) 123 (clampL xs 0 ++ List.replicate (17 - 0) 0) := by
    rw [← hw1]
    exact Wn.new' .u32 _ 123 (List.replicate 17 0) _ rfl _ (by simp)
  have hb : Below w.heap.size w w1 := by
    rw [← hw1]
    exact ((Below.refl _ w).alloc (Nat.le_refl _) _).alloc (by simp) _
  clear hw1
  obtain ⟨g, hg⟩ : ∃ g, w.heap.size = g := ⟨_, rfl⟩
  simp only [hg] at hA hZ hb hlb ⊢
  have HG := hidden hg
  have HA0 := hidden hA
  have HZ0 := hidden hZ
  have HB0 := hidden hb
  clear hA hZ hb hg
  go_wp2
  go_loopw [4] (fun i wr => ∃ j : Nat, j ≤ 16 ∧ i = .int .i64 j ∧ Wn .u32 wr (g + 1) 123 (clampL xs j ++ List.replicate (17 - j) 0) ∧ Wn .u32 wr g 123 (List.replicate 17 0) ∧ Below g w wr) (fun i _ => 16 - (intOf i).toNat)
  case atStart => exact ⟨0, by omega, rfl, HA0.out, HZ0.out, HB0.out⟩
  case round =>
    clear HA0 HZ0 HB0
    obtain ⟨j, hj, rfl, ha, hz, hb⟩ := hrel
    have HA := hidden ha
    have HZ := hidden hz
    have HBB := hidden hb
    clear ha hz hb
    by_cases hlt : j < 16
    · have hx := HB.out wr (by rw [HG.out]; exact HBB.out) j (by omega)
      have hr := HR.out j
      have hy := HA.out.cell j (by rw [List.length_append, clampL_len]; simp; omega)
      have hf := HA.out.fr j
      have HS : Hid (∀ v v2 : Int, v2 = clampI j (xs.getD j 0) → ∀ W : World, W = (wr.setCell ⟨g + 1, j, none⟩ (.int .u32 v)).setCell ⟨g + 1, j, none⟩ (.int .u32 v2) ∨ (W = wr.setCell ⟨g + 1, j, none⟩ (.int .u32 v2)) → Wn .u32 W (g + 1) 123 (clampL xs (j + 1) ++ List.replicate (17 - (j + 1)) 0) ∧ Wn .u32 W g 123 (List.replicate 17 0) ∧ Below g w W) := fun v v2 hv W hW => by
        have hsf := set_fill (clampL xs j) 17 j v2 (clampL_len _ _) (by omega)
        rw [hv] at hsf
        rcases hW with rfl | rfl
        · have h1 := (HA.out.set j v).set j v2
          rw [List.set_set] at h1
          rw [hv] at h1 ⊢
          rw [hsf] at h1
          exact ⟨h1, (HZ.out.other _ _ (by simp)).other _ _ (by simp), (HBB.out.setCell (by simp) _).setCell (by simp) _⟩
        · have h1 := HA.out.set j v2
          rw [hv] at h1 ⊢
          rw [hsf] at h1
          exact ⟨h1, HZ.out.other _ _ (by simp), HBB.out.setCell (by simp) _⟩
      have hcl : clampI j (xs.getD j 0) = clampI j (xs.getD j 0) := rfl
      generalize hxj : xs.getD j 0 = x at *
      have hu : IntKind.u32.wrap x = x := by rw [IntKind.wrap_u32']; omega
      have ha15 := and15w x hr.1 hr.2
      have ha252 := and252w x hr.1 hr.2
      have b0 : (j : Int) < 16 := by omega
      have b1 : (0 : Int) ≤ (j : Int) := by omega
      have b2 : (j : Int) < 17 := by omega
      have b3 : (j : Int) < (n : Int) := by omega
      clear hcl hxj
      by_cases h3 : j % 4 = 3
      · have e1 : ((j : Int) % 4 == 3) = true := by simp; omega
        have e2 : ((j : Int) % 4 == 0) = false := by simp; omega
        have hv : x % 16 = clampI j x := by unfold clampI; rw [if_pos h3]
        have HN := hidden (HS.out x (x % 16) hv _ (Or.inl rfl))
        clear hv
        go_wp2
        go_roundw
        case rel => exact ⟨j + 1, by omega, by go_num, HN.out.1, HN.out.2.1, HN.out.2.2⟩
        case measure => simp [intOf]; omega
      · have e1 : ((j : Int) % 4 == 3) = false := by simp; omega
        by_cases h0 : j % 4 = 0 ∧ 0 < j
        · have e2 : ((j : Int) % 4 == 0) = true := by simp; omega
          have e3 : (0 : Int) < (j : Int) := by omega
          have e4 : decide ((0 : Int) < (j : Int)) = true := by simp; omega
          have hv : x - x % 4 = clampI j x := by unfold clampI; rw [if_neg h3, if_pos h0]
          have HN := hidden (HS.out x (x - x % 4) hv _ (Or.inl rfl))
          clear hv
          go_wp2
          go_roundw
          case rel => exact ⟨j + 1, by omega, by go_num, HN.out.1, HN.out.2.1, HN.out.2.2⟩
          case measure => simp [intOf]; omega
        · have hv : x = clampI j x := by unfold clampI; rw [if_neg h3, if_neg h0]
          have HN := hidden (HS.out x x hv _ (Or.inr rfl))
          clear hv
          by_cases h4 : j % 4 = 0
          · have e2 : ((j : Int) % 4 == 0) = true := by simp; omega
            have hj0 : ¬ (0 : Int) < (j : Int) := by omega
            have e4 : decide ((0 : Int) < (j : Int)) = false := by simp; omega
            go_wp2
            go_roundw
            case rel => exact ⟨j + 1, by omega, by go_num, HN.out.1, HN.out.2.1, HN.out.2.2⟩
            case measure => simp [intOf]; omega
          · have e2 : ((j : Int) % 4 == 0) = false := by simp; omega
            go_wp2
            go_roundw
            case rel => exact ⟨j + 1, by omega, by go_num, HN.out.1, HN.out.2.1, HN.out.2.2⟩
            case measure => simp [intOf]; omega
    · have hj16 : j = 16 := by omega
      have hge : ¬ (j : Int) < 16 := by omega
      have hae := HA.out
      rw [hj16] at hae
      have HE : Hid (Wn .u32 wr (g + 1) 123 R) := by rw [← HRE.eq]; exact hae
      clear hj16 hae HA
      go_wp2_with (first
        | (refine wpList_load_row rfl 123 _ rfl (g + 1) rfl 123 _ (0, 0) _ HE.out.heap Tryd.underlying123 rfl HIR.out ?_)
        | (refine wpList_store_row rfl 123 _ _ rfl g (ints .u32 R) rfl rfl 123 _ HZ.out.heap HIR.out HZR.out (onek .u32 R) ?_)
        | fail)
      refine bodyPost_ret (results_cell_row rfl _ _ g 123 _ _ _ rfl (HZ.out.row R).heap Tryd.underlying123 rfl HIR.out) rfl ?_
      exact ⟨rfl, by rw [HG.out]; exact below_setRow HBB.out (Nat.le_refl _) _⟩
end Go.Proofs.YtpocehpejbnemaaDoor

namespace Go.Proofs.YtpocehpejbnemaaDoor
open Go.RowKit
set_option linter.unusedVariables false

def midR (H : List Int) (j : Nat) : List Int := if j ≤ 16 then dig 256 j (num 256 (H.take j)) ++ H.drop j else finR H
def uR (H : List Int) (j : Nat) : Int := if j ≤ 16 then outB H j else 5 * ((outB H 16 + H.getD 16 0) / 4)
theorem midR_zero (H : List Int) : midR H 0 = H := by simp [midR, dig]
theorem midR_len (H : List Int) (h : H.length = 17) (j : Nat) (hj : j ≤ 17) : (midR H j).length = 17 := by
  unfold midR
  split
  · simp [dig_len, h]; omega
  · exact finR_len H
theorem midR_get (H : List Int) (j : Nat) (hj : j ≤ 16) : (midR H j).getD j 0 = H.getD j 0 := by
  unfold midR
  rw [if_pos hj]
  exact getD_mid _ _ _ (dig_len _ _ _)
theorem midR_succ (H : List Int) (h : H.length = 17) (j : Nat) (hj : j < 16) : (midR H j).set j ((uR H j + H.getD j 0) % 256) = midR H (j + 1) := by
  unfold midR uR
  rw [if_pos (by omega), if_pos (by omega), if_pos (by omega), set_mid _ _ _ _ (dig_len _ _ _) (by omega)]
  have := carry_dig 256 0 (by omega) H j (by omega)
  simp only [Int.add_zero] at this
  rw [this]
  rfl
theorem uR_succ (H : List Int) (h : H.length = 17) (j : Nat) (hj : j < 16) : (uR H j + H.getD j 0) / 256 = uR H (j + 1) := by
  unfold uR
  rw [if_pos (by omega), if_pos (by omega), outB_succ H j (by omega)]
theorem midR_last (H : List Int) (h : H.length = 17) (v : Int) : ((midR H 16).set 16 v).set 16 ((uR H 16 + H.getD 16 0) % 4) = midR H 17 := by
  rw [List.set_set]
  unfold midR uR finR
  rw [if_pos (by omega), if_pos (by omega), if_neg (by omega), set_mid _ _ _ _ (dig_len _ _ _) (by omega), List.drop_of_length_le (by omega), List.append_nil]
theorem uR_last (H : List Int) : 5 * ((uR H 16 + H.getD 16 0) / 4) = uR H 17 := by
  unfold uR
  rw [if_pos (by omega), if_neg (by omega)]
theorem uR_rng (H : List Int) (h : H.length = 17) (ha : ∀ i, 0 ≤ H.getD i 0 ∧ H.getD i 0 < 2147483648) (j : Nat) (hj : j ≤ 16) : 0 ≤ uR H j ∧ uR H j ≤ 8421505 := by
  induction j with
  | zero => simp [uR, outB_zero]
  | succ j ih =>
    have := ih (by omega)
    have := ha j
    rw [← uR_succ H h j (by omega)]
    omega
theorem roundR_is (H : List Int) : (midR H 17).set 0 ((midR H 17).getD 0 0 + uR H 17) = roundR H := by
  unfold midR uR roundR
  rw [if_neg (by omega), if_neg (by omega)]
/-- What lies where in a round. -/
structure RcI (w wr : World) (n : Nat) (L : List Int) : Prop where
  row : Wn .u32 wr n 123 L
  z : Wn .u32 wr (n + 1) 123 (List.replicate 17 0)
  bel : Below n w wr
theorem RcI.set {w wr : World} {n : Nat} {L : List Int} (h : RcI w wr n L) (j : Nat) (v : Int) : RcI w (wr.setCell ⟨n, j, none⟩ (.int .u32 v)) n (L.set j v) :=
  ⟨h.row.set _ _, h.z.other _ _ (by simp), h.bel.setCell (Nat.le_refl _) _⟩

set_option maxHeartbeats 3200000 in
set_option maxRecDepth 100000 in
theorem rcarry_any (L : List Int) (h0 : InvR 0 L) (w : World) :
    Calls Tryd.prog 83 #[.agg (ints .u32 L)] w fun e w' => ∃ R, e = .returned (.agg (ints .u32 R)) ∧ Nrm R ∧ (∃ t, num 256 R + t * P130 = num 256 L) ∧ Below w.heap.size w w' := by
  have H0 := hidden h0
  go_enter Tryd.func83, Tryd.ntmps83
  go_upto_region 1 with fail
  have hA : RcI w ((w.alloc (.cells (ints .u32 L) 123)).alloc (.cells #[.int .u32 0, .int .u32 0, .int .u32 0, .int .u32 0, .int .u32 0, .int .u32 0, .int .u32 0, .int .u32 0, .int .u32 0, .int .u32 0, .int .u32 0, .int .u32 0, .int .u32 0, .int .u32 0, .int .u32 0, .int .u32 0, .int .u32 0] 123)) w.heap.size L :=
    ⟨(Wn.new .u32 w 123 L _ rfl).alloc _, Wn.new' .u32 _ 123 (List.replicate 17 0) _ rfl _ (by simp), ((Below.refl _ w).alloc (Nat.le_refl _) _).alloc (by simp) _⟩
  obtain ⟨n, hn⟩ : ∃ n, w.heap.size = n := ⟨_, rfl⟩
  simp only [hn] at hA ⊢
  have HN := hidden hn
  have HA0 := hidden hA
  have HT0 : Hid (num 256 L + 0 * P130 = num 256 L) := by show num 256 L + 0 * P130 = num 256 L; omega
  clear hA hn h0
  go_wp2
  go_loopw [3] (fun i wr => ∃ (r : Nat) (H : List Int) (t : Int), r ≤ 3 ∧ i = .int .i64 r ∧ RcI w wr n H ∧ Hid (InvR r H) ∧ Hid (num 256 H + t * P130 = num 256 L)) (fun i _ => 3 - (intOf i).toNat)
  case atStart => exact ⟨0, L, 0, by omega, rfl, HA0.out, H0, HT0⟩
  case round =>
    clear HA0 H0 HT0
    obtain ⟨r, H, t, hr, rfl, hi, HIV, HT⟩ := hrel
    have HI := hidden hi
    clear hi
    by_cases hrt : r < 3
    · have hr3 : (r : Int) < 3 := by omega
      have hrd : decide ((r : Int) < 3) = true := by simp; omega
      have HGET := hidden (fun j (hj : j ≤ 16) => midR_get H j hj)
      have HLEN := hidden (fun j (hj : j ≤ 17) => midR_len H HIV.out.len j hj)
      have HSUC := hidden (fun j (hj : j < 16) => midR_succ H HIV.out.len j hj)
      have HUSU := hidden (fun j (hj : j < 16) => uR_succ H HIV.out.len j hj)
      have HLST := hidden (fun v => midR_last H HIV.out.len v)
      have HULS := Is.mk (uR_last H)
      have HURN := hidden (fun j (hj : j ≤ 16) => uR_rng H HIV.out.len HIV.out.all j hj)
      have HALL := hidden HIV.out.all
      have HRND := Is.mk (roundR_is H)
      have HNXT := hidden (HIV.out.round r H hrt)
      have HNUM := Is.mk (roundR_num H HIV.out.len)
      have HFST := hidden (finR_get H 0 (by omega))
      have HM17 : Is (midR H 17) (finR H) := ⟨by unfold midR; rw [if_neg (by omega)]⟩
      have HU17 := hidden (show 0 ≤ uR H 17 ∧ uR H 17 ≤ 2900000000 by
        rw [← uR_last H]
        have := uR_rng H HIV.out.len HIV.out.all 16 (by omega)
        have := HIV.out.all 16
        omega)
      have HM0 : Hid (RcI w wr n (midR H 0)) := by show RcI w wr n (midR H 0); rw [midR_zero]; exact HI.out
      have HU0 : Is (uR H 0) 0 := ⟨by simp [uR, outB_zero]⟩
      clear HI
      go_wp2
      rename World => wo
      go_loopw [4, 5] (fun u i wr => ∃ j : Nat, j ≤ 17 ∧ i = .int .i64 j ∧ u = .int .u32 (uR H j) ∧ RcI w wr n (midR H j)) (fun _ i _ => 17 - (intOf i).toNat)
      case atStart => exact ⟨0, by omega, rfl, by rw [HU0.eq], HM0.out⟩
      case round =>
        clear HM0 HU0
        obtain ⟨j, hj, rfl, rfl, hi⟩ := hrel
        have HI := hidden hi
        clear hi
        by_cases hj16 : j < 16
        · have hx := HI.out.row.cell j (by rw [HLEN.out j hj]; omega)
          rw [HGET.out j (by omega)] at hx
          have hf := HI.out.row.fr j
          have hxr := HALL.out j
          have hur := HURN.out j (by omega)
          have HS1 := Is.mk (HSUC.out j hj16)
          have HS2 := Is.mk (HUSU.out j hj16)
          generalize H.getD j 0 = x at hx hxr HS1 HS2
          generalize uR H j = u at *
          have w0 : IntKind.u32.wrap (u + x) = u + x := by rw [IntKind.wrap_u32']; omega
          have ha := and255w (u + x) (by omega) (by omega)
          have HN1 : Hid (RcI w (wr.setCell ⟨n, j, none⟩ (.int .u32 ((u + x) % 256))) n (midR H (j + 1))) := by rw [← HS1.eq]; exact hidden (HI.out.set j _)
          have b0 : (j : Int) < 17 := by omega
          have b1 : (0 : Int) ≤ (j : Int) := by omega
          have b2 : ((j : Int) == 16) = false := by simp; omega
          go_wp2
          go_roundw
          case rel => exact ⟨j + 1, by omega, by go_num, by rw [← HS2.eq], HN1.out⟩
          case measure => simp [intOf]; omega
        · by_cases hj17 : j = 16
          · have hx := HI.out.row.cell j (by rw [HLEN.out j hj]; omega)
            rw [HGET.out j (by omega)] at hx
            have hf := HI.out.row.fr j
            have hxr := HALL.out j
            have hur := HURN.out j (by omega)
            have HL1 := hidden HLST.out
            have HU1 := Is.mk HULS.eq
            rw [← hj17] at HL1 HU1
            generalize H.getD j 0 = x at hx hxr HL1 HU1
            generalize uR H j = u at *
            have w0 : IntKind.u32.wrap (u + x) = u + x := by rw [IntKind.wrap_u32']; omega
            have ha := and255w (u + x) (by omega) (by omega)
            have ha3 := and3w (u + x) (by omega) (by omega)
            have w5 : IntKind.u32.wrap (5 * ((u + x) / 4)) = 5 * ((u + x) / 4) := by rw [IntKind.wrap_u32']; omega
            have HN1 : Hid (RcI w ((wr.setCell ⟨n, j, none⟩ (.int .u32 ((u + x) % 256))).setCell ⟨n, j, none⟩ (.int .u32 ((u + x) % 4))) n (midR H (16 + 1))) := by
              rw [← HL1.out ((u + x) % 256)]
              exact hidden ((HI.out.set j _).set j _)
            rw [← hj17] at HN1
            have HU2 : Is (5 * ((u + x) / 4)) (uR H (j + 1)) := ⟨by rw [HU1.eq, hj17]⟩
            have b0 : (j : Int) < 17 := by omega
            have b1 : (0 : Int) ≤ (j : Int) := by omega
            have b2 : ((j : Int) == 16) = true := by simp; omega
            clear hj17 HL1 HU1
            go_wp2
            go_roundw
            case rel => exact ⟨j + 1, by omega, by go_num, by rw [HU2.eq], HN1.out⟩
            case measure => simp [intOf]; omega
          · have hje : j = 17 := by omega
            have hge : ¬ (j : Int) < 17 := by omega
            rw [← hje] at HU17 HM17 HRND
            have hx := HI.out.row.cell 0 (by rw [HLEN.out j (by omega)]; omega)
            have hf := HI.out.row.fr 0
            have hf0 := HFST.out
            have hur := HU17.out
            rw [← HM17.eq] at hf0
            clear hje
            generalize hmx : (midR H j).getD 0 0 = x at *
            generalize uR H j = u at *
            have w0 : IntKind.u32.wrap (x + u) = x + u := by rw [IntKind.wrap_u32']; omega
            have HN1 : Hid (RcI w (wr.setCell ⟨n, 0, none⟩ (.int .u32 (x + u))) n (roundR H)) := by rw [← HRND.eq]; exact hidden (HI.out.set 0 _)
            have HTN : Hid (num 256 (roundR H) + (t + num 256 H / 1361129467683753853853498429727072845824) * P130 = num 256 L) := by
              show num 256 (roundR H) + (t + num 256 H / 1361129467683753853853498429727072845824) * P130 = num 256 L
              have h1 := HNUM.eq
              have h2 := HT.out
              rw [h1]
              grind
            clear hmx
            go_wp2
            go_roundw
            case rel => exact ⟨r + 1, roundR H, _, by omega, by go_num, HN1.out, HNXT, HTN⟩
            case measure => simp [intOf]; omega
    · have hre : r = 3 := by omega
      have hge : ¬ (r : Int) < 3 := by omega
      have hrd : decide ((r : Int) < 3) = false := by simp; omega
      have hiv := HIV.out
      rw [hre] at hiv
      have HNR := hidden hiv.nrm
      have HIR := hidden (infoRL H hiv.len)
      have HZR := hidden (zeroRL H hiv.len)
      clear hre hiv
      go_wp2_with (first
        | (refine wpList_load_row rfl 123 _ rfl n rfl 123 _ (0, 0) _ HI.out.row.heap Tryd.underlying123 rfl HIR.out ?_)
        | (refine wpList_store_row rfl 123 _ _ rfl (n + 1) (ints .u32 H) rfl rfl 123 _ HI.out.z.heap HIR.out HZR.out (onek .u32 H) ?_)
        | fail)
      refine bodyPost_ret (results_cell_row rfl _ _ (n + 1) 123 _ _ _ rfl (HI.out.z.row H).heap Tryd.underlying123 rfl HIR.out) rfl ?_
      exact ⟨H, rfl, HNR.out, ⟨t, HT.out⟩, by rw [HN.out]; exact below_setRow HI.out.bel (by omega) _⟩
end Go.Proofs.YtpocehpejbnemaaDoor

namespace Go.Proofs.YtpocehpejbnemaaDoor
open Go.RowKit
set_option linter.unusedVariables false

/-- The coefficients of one digit's products, column by column. -/
def rotB (b : List Int) (j : Nat) : List Int := (b.drop (17 - j)).map (320 * ·) ++ b.take (17 - j)
theorem rotB_len (b : List Int) (h : b.length = 17) (j : Nat) (hj : j ≤ 17) : (rotB b j).length = 17 := by simp [rotB, h] <;> omega
theorem num_scale (x : Int) (l : List Int) : num 256 (l.map (x * ·)) = x * num 256 l := by
  induction l with
  | nil => simp [num]
  | cons y l ih => simp only [List.map_cons, num, ih]; grind
theorem rotB_num (b : List Int) (h : b.length = 17) (j : Nat) (hj : j ≤ 17) : num 256 (rotB b j) + (64 * num 256 (b.drop (17 - j))) * P130 = 256 ^ j * num 256 b := by
  unfold rotB
  rw [num_append, num_scale]
  have h1 : num 256 b = num 256 (b.take (17 - j)) + 256 ^ (17 - j) * num 256 (b.drop (17 - j)) := by
    have := num_append 256 (b.take (17 - j)) (b.drop (17 - j))
    rw [List.take_append_drop, List.length_take, show min (17 - j) b.length = 17 - j by omega] at this
    exact this
  have h2 : (256 : Int) ^ j * 256 ^ (17 - j) = 64 * P130 + 320 := by
    rw [← Int.pow_add, show j + (17 - j) = 17 by omega]
    decide
  have h3 : ((b.drop (17 - j)).map (320 * ·)).length = j := by simp [h]; omega
  rw [h3, h1]
  generalize num 256 (b.take (17 - j)) = u at *
  generalize num 256 (b.drop (17 - j)) = v at *
  generalize (256 : Int) ^ j = p at *
  generalize (256 : Int) ^ (17 - j) = q at *
  grind
theorem rotB_lo (b : List Int) (h : b.length = 17) (j i : Nat) (hj : j ≤ i) (hi : i < 17) : (rotB b j).getD i 0 = b.getD (i - j) 0 := by
  unfold rotB
  rw [List.getD_eq_getElem?_getD, List.getElem?_append_right (by simp [h]; omega)]
  have : ((b.drop (17 - j)).map (320 * ·)).length = j := by simp [h]; omega
  rw [this, List.getElem?_take, if_pos (by omega), List.getD_eq_getElem?_getD]
theorem rotB_hi (b : List Int) (h : b.length = 17) (j i : Nat) (hj : i < j) (hj17 : j ≤ 17) : (rotB b j).getD i 0 = 320 * b.getD (17 + i - j) 0 := by
  unfold rotB
  rw [List.getD_eq_getElem?_getD, List.getElem?_append_left (by simp [h]; omega), List.getElem?_map, List.getElem?_drop, show 17 - j + i = 17 + i - j by omega]
  rw [List.getElem?_eq_getElem (show 17 + i - j < b.length by omega), List.getD_eq_getElem?_getD, List.getElem?_eq_getElem (show 17 + i - j < b.length by omega)]
  rfl
/-- The columns after k digits. -/
def outL (a b : List Int) : Nat → List Int
  | 0 => List.replicate 17 0
  | k + 1 => addL (outL a b k) ((rotB b k).map (a.getD k 0 * ·))
theorem outL_len (a b : List Int) (hb : b.length = 17) (k : Nat) (hk : k ≤ 17) : (outL a b k).length = 17 := by
  induction k with
  | zero => simp [outL]
  | succ k ih => rw [outL, addL_len, List.length_map, ih (by omega), rotB_len b hb k (by omega)]; rfl
theorem outL_num (a b : List Int) (ha : a.length = 17) (hb : b.length = 17) (k : Nat) (hk : k ≤ 17) : ∃ t, num 256 (outL a b k) + t * P130 = num 256 (a.take k) * num 256 b := by
  induction k with
  | zero => exact ⟨0, by simp [outL, num]⟩
  | succ k ih =>
    obtain ⟨t, ht⟩ := ih (by omega)
    have h1 := rotB_num b hb k (by omega)
    refine ⟨t + a.getD k 0 * (64 * num 256 (b.drop (17 - k))), ?_⟩
    rw [outL, addL_num _ _ _ (by rw [List.length_map, outL_len a b hb k (by omega), rotB_len b hb k (by omega)]), num_scale, num_take _ _ _ (by omega)]
    generalize num 256 (outL a b k) = u at *
    generalize num 256 (rotB b k) = v at *
    generalize num 256 (b.drop (17 - k)) = d at *
    generalize num 256 (a.take k) = f at *
    generalize a.getD k 0 = x at *
    generalize num 256 b = nb at *
    generalize (256 : Int) ^ k = p at *
    grind
theorem outL_get (a b : List Int) (hb : b.length = 17) (k i : Nat) (hk : k < 17) (hi : i < 17) : (outL a b (k + 1)).getD i 0 = (outL a b k).getD i 0 + a.getD k 0 * (rotB b k).getD i 0 := by
  rw [outL, addL_get _ _ _ (by rw [outL_len a b hb k (by omega)]; exact hi) (by rw [List.length_map, rotB_len b hb k (by omega)]; exact hi)]
  congr 1
  rw [List.getD_eq_getElem?_getD, List.getElem?_map, List.getD_eq_getElem?_getD (l := rotB b k), List.getElem?_eq_getElem (show i < (rotB b k).length by rw [rotB_len b hb k (by omega)]; exact hi)]
  rfl
theorem mul_255 (x y : Int) (hx : 0 ≤ x ∧ x ≤ 255) (hy : 0 ≤ y ∧ y ≤ 255) : 0 ≤ x * y ∧ x * y ≤ 65025 := by
  refine ⟨Int.mul_nonneg hx.1 hy.1, ?_⟩
  have h1 : x * y ≤ 255 * y := Int.mul_le_mul_of_nonneg_right hx.2 hy.1
  omega
/-- A column in its row: the list with what has been stored. -/
theorem outL_store (a b : List Int) (hb : b.length = 17) (i : Nat) (hi : i < 17) : ((outL a b 17).take i ++ List.replicate (17 - i) 0).set i ((outL a b 17).getD i 0) = (outL a b 17).take (i + 1) ++ List.replicate (17 - (i + 1)) 0 := by
  have hl := outL_len a b hb 17 (by omega)
  rw [set_fill _ 17 i _ (by simp; omega) hi, List.take_succ_eq_append_getElem (by omega)]
  simp [List.getD_eq_getElem?_getD, hl, hi]

/-- What lies where. -/
structure RpI (w wr : World) (n : Nat) (A B O : List Int) : Prop where
  a : Wn .u32 wr n 123 A
  b : Wn .u32 wr (n + 1) 123 B
  z : Wn .u32 wr (n + 1 + 1) 123 (List.replicate 17 0)
  o : Wn .u32 wr (n + 1 + 1 + 1) 123 O
  bel : Below n w wr
theorem RpI.set {w wr : World} {n : Nat} {A B O : List Int} (h : RpI w wr n A B O) (j : Nat) (v : Int) : RpI w (wr.setCell ⟨n + 1 + 1 + 1, j, none⟩ (.int .u32 v)) n A B (O.set j v) :=
  ⟨h.a.other _ _ (by simp <;> omega), h.b.other _ _ (by simp <;> omega), h.z.other _ _ (by simp), h.o.set _ _, h.bel.setCell (by simp <;> omega) _⟩
theorem RpI.drew {w wr : World} {n : Nat} {A B O : List Int} (h : RpI w wr n A B O) : RpI w wr.drew n A B O := ⟨h.a.drew, h.b.drew, h.z.drew, h.o.drew, h.bel.drew⟩

set_option maxHeartbeats 3200000 in
set_option maxRecDepth 100000 in
theorem rproduct_any (A B : List Int) (hA : A.length = 17) (hB : B.length = 17) (hrA : ∀ i, 0 ≤ A.getD i 0 ∧ A.getD i 0 ≤ 255) (hrB : ∀ i, 0 ≤ B.getD i 0 ∧ B.getD i 0 ≤ 255) (w : World) :
    Calls Tryd.prog 82 #[.agg (ints .u32 A), .agg (ints .u32 B)] w fun e w' => ∃ R, e = .returned (.agg (ints .u32 R)) ∧ Nrm R ∧ (∃ t, num 256 R + t * P130 = num 256 A * num 256 B) ∧ Below w.heap.size w w' := by
  obtain ⟨U, hU⟩ : ∃ U : Nat → Nat → Int, U = fun k i => (outL A B k).getD i 0 := ⟨_, rfl⟩
  have HU0 : Hid (∀ i, i < 17 → U 0 i = 0) := fun i hi => by rw [hU]; simp only [outL]; rw [List.getD_eq_getElem?_getD, List.getElem?_replicate, if_pos hi]; rfl
  have HUL : Hid (∀ k i, k ≤ i → i < 17 → U (k + 1) i = U k i + A.getD k 0 * B.getD (i - k) 0) := fun k i h1 h2 => by rw [hU]; simp only; rw [outL_get A B hB k i (by omega) h2, rotB_lo B hB k i h1 h2]
  have HUH : Hid (∀ k i, i < k → k < 17 → U (k + 1) i = U k i + 320 * A.getD k 0 * B.getD (17 + i - k) 0) := fun k i h1 h2 => by
    rw [hU]; simp only
    rw [outL_get A B hB k i h2 (by omega), rotB_hi B hB k i h1 (by omega)]
    grind
  have HUR : Hid (∀ k i, k ≤ 17 → i < 17 → 0 ≤ U k i ∧ U k i ≤ (k : Int) * 20808000) := fun k => by
    induction k with
    | zero => intro i _ hi; rw [HU0.out i hi]; omega
    | succ k ih =>
      intro i hk hi
      have h1 := ih i (by omega) hi
      have h2 := mul_255 _ _ (hrA k) (hrB (i - k))
      have h3 := mul_255 _ _ (hrA k) (hrB (17 + i - k))
      by_cases hki : k ≤ i
      · rw [HUL.out k i hki hi]
        push_cast
        omega
      · rw [HUH.out k i (by omega) (by omega), Int.mul_assoc]
        push_cast
        omega
  obtain ⟨O, hO⟩ : ∃ O, outL A B 17 = O := ⟨_, rfl⟩
  have hOl : O.length = 17 := by rw [← hO]; exact outL_len A B hB 17 (by omega)
  have HOS : Hid (∀ i, i < 17 → (O.take i ++ List.replicate (17 - i) 0).set i (U 17 i) = O.take (i + 1) ++ List.replicate (17 - (i + 1)) 0) := fun i hi => by
    rw [hU, ← hO]
    exact outL_store A B hB i hi
  have HOR : Hid (InvR 0 O) := by
    have hb : ∀ i, 0 ≤ O.getD i 0 ∧ O.getD i 0 ≤ 353736000 := fun i => by
      by_cases hi : i < 17
      · have := HUR.out 17 i (by omega) hi
        have e : U 17 i = O.getD i 0 := by rw [hU, ← hO]
        rw [e] at this
        omega
      · rw [List.getD_eq_getElem?_getD, List.getElem?_eq_none (by omega)]; simp
    exact hidden ⟨hOl, fun i => by have := hb i; omega, fun _ i => by have := hb i; omega, fun h => by omega, fun h => by omega, fun h => by omega⟩
  have HON : Hid (∃ t, num 256 O + t * P130 = num 256 A * num 256 B) := by
    have := outL_num A B hA hB 17 (by omega)
    rw [hO, List.take_of_length_le (by omega)] at this
    exact hidden this
  have HXA := hidden hrA
  have HXB := hidden hrB
  have HAL := Is.mk hA
  have HBL := Is.mk hB
  have HOL := Is.mk hOl
  clear hU hO hOl hA hB hrA hrB
  go_enter Tryd.func82, Tryd.ntmps82
  go_upto_region 2 with fail
  generalize hw1 : World.alloc _ (.cells _ 123) = w1
  have hI : RpI w w1 w.heap.size A B (O.take 0 ++ List.replicate (17 - 0) 0) := by
    rw [← hw1]
    refine ⟨?_, ?_, ?_, ?_, ?_⟩
    · exact (((Wn.new .u32 w 123 A _ rfl).alloc _).alloc _).alloc _
    · exact ((Wn.new' .u32 _ 123 B _ rfl _ (by simp)).alloc _).alloc _
    · exact (Wn.new' .u32 _ 123 (List.replicate 17 0) _ rfl _ (by simp)).alloc _
    · exact Wn.new' .u32 _ 123 (List.replicate 17 0) _ rfl _ (by simp)
    · exact ((((Below.refl _ w).alloc (Nat.le_refl _) _).alloc (by simp) _).alloc (by simp; omega) _).alloc (by simp; omega) _
  clear hw1
  obtain ⟨n, hn⟩ : ∃ n, w.heap.size = n := ⟨_, rfl⟩
  simp only [hn] at hI ⊢
  have HN := hidden hn
  have HI0 := hidden hI
  clear hI hn
  go_wp2
  go_loopw [6] (fun i wr => ∃ j : Nat, j ≤ 17 ∧ i = .int .i64 j ∧ RpI w wr n A B (O.take j ++ List.replicate (17 - j) 0)) (fun i _ => 17 - (intOf i).toNat)
  case atStart => exact ⟨0, by omega, rfl, HI0.out⟩
  case round =>
    clear HI0
    obtain ⟨i, hi, rfl, hri⟩ := hrel
    have HI := hidden hri
    clear hri
    by_cases hlt : i < 17
    · have b0 : (i : Int) < 17 := by omega
      have b1 : (0 : Int) ≤ (i : Int) := by omega
      have hid : decide ((i : Int) < 17) = true := by simp; omega
      have HU00 := Is.mk (HU0.out i hlt)
      go_wp2
      rename World => wo
      go_loopw [7, 8] (fun u k wr => ∃ j : Nat, j ≤ 17 ∧ k = .int .i64 j ∧ u = .int .u32 (U j i) ∧ RpI w wr n A B (O.take i ++ List.replicate (17 - i) 0)) (fun _ k _ => 17 - (intOf k).toNat)
      case atStart => exact ⟨0, by omega, rfl, by rw [HU00.eq], HI.out⟩
      case round =>
        clear HI HU00
        obtain ⟨j, hj, rfl, rfl, hri⟩ := hrel
        have HI := hidden hri
        clear hri
        by_cases hjt : j < 17
        · have hx := HI.out.a.cell j (by rw [HAL.eq]; exact hjt)
          have hxr := HXA.out j
          have hur := HUR.out j i (by omega) hlt
          have c0 : (j : Int) < 17 := by omega
          have c1 : (0 : Int) ≤ (j : Int) := by omega
          by_cases hji : j ≤ i
          · have hy := HI.out.b.cell (i - j) (by rw [HBL.eq]; omega)
            have hyr := HXB.out (i - j)
            have HS := Is.mk (HUL.out j i hji hlt)
            generalize A.getD j 0 = x at hx hxr HS
            generalize B.getD (i - j) 0 = y at hy hyr HS
            generalize U j i = u at *
            have hm := mul_255 x y hxr hyr
            have w0 : IntKind.u32.wrap (x * y) = x * y := by rw [IntKind.wrap_u32']; omega
            have w1' : IntKind.u32.wrap (u + x * y) = u + x * y := by rw [IntKind.wrap_u32']; omega
            have d0 : (j : Int) ≤ (i : Int) := by omega
            have d1 : (0 : Int) ≤ (i : Int) - (j : Int) := by omega
            have d2 : (i : Int) - (j : Int) < 17 := by omega
            have d3 : ((i : Int) - (j : Int)).toNat = i - j := by omega
            have HID := hidden HI.out.drew
            have HS2 : Is (u + x * y) (U (j + 1) i) := ⟨HS.eq.symm⟩
            go_upto_region 10 with fail
            go_region
            go_wp2
            go_roundw
            case rel => exact ⟨j + 1, by omega, by go_num, by rw [HS2.eq], HID.out⟩
            case measure => simp [intOf]; omega
          · have hy := HI.out.b.cell (17 + i - j) (by rw [HBL.eq]; omega)
            have hyr := HXB.out (17 + i - j)
            have HS := Is.mk (HUH.out j i (by omega) hjt)
            generalize A.getD j 0 = x at hx hxr HS
            generalize B.getD (17 + i - j) 0 = y at hy hyr HS
            generalize U j i = u at *
            have hm := mul_255 x y hxr hyr
            have e3 : 320 * x * y = 320 * (x * y) := Int.mul_assoc _ _ _
            have w2' : IntKind.u32.wrap (320 * x) = 320 * x := by rw [IntKind.wrap_u32']; omega
            have w0 : IntKind.u32.wrap (320 * x * y) = 320 * x * y := by rw [IntKind.wrap_u32']; omega
            have w1' : IntKind.u32.wrap (u + 320 * x * y) = u + 320 * x * y := by rw [IntKind.wrap_u32']; omega
            have d0 : ¬ (j : Int) ≤ (i : Int) := by omega
            have d1 : (0 : Int) ≤ 17 + (i : Int) - (j : Int) := by omega
            have d2 : 17 + (i : Int) - (j : Int) < 17 := by omega
            have d3 : (17 + (i : Int) - (j : Int)).toNat = 17 + i - j := by omega
            have HID := hidden HI.out.drew
            have HS2 : Is (u + 320 * x * y) (U (j + 1) i) := ⟨HS.eq.symm⟩
            clear e3
            go_upto_region 11 with fail
            go_region
            go_wp2
            go_roundw
            case rel => exact ⟨j + 1, by omega, by go_num, by rw [HS2.eq], HID.out⟩
            case measure => simp [intOf]; omega
        · have hje : j = 17 := by omega
          have hge : ¬ (j : Int) < 17 := by omega
          have hf := HI.out.o.fr i
          have hoc := HI.out.o.cell i (by simp [HOL.eq]; omega)
          have hue : U j i = U 17 i := by rw [hje]
          have HN1 : Hid (RpI w (wr.setCell ⟨n + 1 + 1 + 1, i, none⟩ (.int .u32 (U j i))) n A B (O.take (i + 1) ++ List.replicate (17 - (i + 1)) 0)) := by
            rw [← HOS.out i hlt, ← hue]
            exact hidden (HI.out.set i _)
          clear hje hue
          generalize U j i = u at *
          go_wp2
          go_roundw
          case rel => exact ⟨i + 1, by omega, by go_num, HN1.out⟩
          case measure => simp [intOf]; omega
    · have hie : i = 17 := by omega
      have hge : ¬ (i : Int) < 17 := by omega
      have hid : decide ((i : Int) < 17) = false := by simp; omega
      have HE : Hid (RpI w wr n A B O) := by
        have := HI.out
        rw [hie, List.take_of_length_le (by rw [HOL.eq]; omega)] at this
        simpa using hidden this
      have HIO := hidden (infoRL O HOL.eq)
      clear hie HI
      go_wp2_with (first
        | (refine wpList_load_row rfl 123 _ rfl (n + 1 + 1 + 1) rfl 123 _ (0, 0) _ HE.out.o.heap Tryd.underlying123 rfl HIO.out ?_)
        | (go_at_call 83; (with_reducible refine (rcarry_any O HOR.out wr).mono ?_); rintro e4 w4 ⟨R, rfl, hnr, ht, hb4⟩; have HNR := hidden hnr; have HTR := hidden ht; have HZ4 := hidden (HE.out.z.below hb4); have HB4 := hidden (HE.out.bel.trans (hb4.mono (Nat.le_of_lt (Nat.lt_of_le_of_lt (by omega) HE.out.z.lt)))); have HIR := hidden (infoRL R hnr.len); have HZR := hidden (zeroRL R hnr.len); clear hnr ht hb4)
        | (refine wpList_store_row rfl 123 _ _ rfl (n + 1 + 1) (ints .u32 R) rfl rfl 123 _ HZ4.out.heap HIR.out HZR.out (onek .u32 R) ?_)
        | fail)
      refine bodyPost_ret (results_cell_row rfl _ _ (n + 1 + 1) 123 _ _ _ rfl (HZ4.out.row R).heap Tryd.underlying123 rfl HIR.out) rfl ?_
      refine ⟨R, rfl, HNR.out, ?_, by rw [HN.out]; exact below_setRow HB4.out (by omega) _⟩
      obtain ⟨t1, h1⟩ := HTR.out
      obtain ⟨t2, h2⟩ := HON.out
      exact ⟨t1 + t2, by rw [← h2, ← h1]; grind⟩
end Go.Proofs.YtpocehpejbnemaaDoor
