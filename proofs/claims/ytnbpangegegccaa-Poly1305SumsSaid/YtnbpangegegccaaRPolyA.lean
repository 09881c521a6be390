/-
  The document's clamp and carry.
-/
import Derived.Test.YtnbpangegegccaaRPolyMath
import Derived.Test.YtnbpangegegccaaWn
namespace Go.Proofs.Ytnbpangegegccaa
open Go.RowKit
set_option linter.unusedVariables false

theorem infoR17 : (Try.prog.info? 53).map (·.size) = some 17 := by kernel_rfl
theorem infoRL (l : List Int) (h : l.length = 17) : (Try.prog.info? 53).map (·.size) = some (ints .u32 l).size := by rw [infoR17, ints_size, h]
theorem zeroRL (l : List Int) (h : l.length = 17) : (ints .u32 (List.replicate 17 (0 : Int))).size = (ints .u32 l).size := by rw [ints_size, ints_size, h]; rfl
theorem and15w (x : Int) (h0 : 0 ≤ x) (h1 : x ≤ 255) : bits .and .u32 x 15 = x % 16 := by
  have : ∀ n : Fin 256, bits .and .u32 (n.val : Int) 15 = (n.val : Int) % 16 := by decide +kernel
  have h := this ⟨x.toNat, by omega⟩
  simp only at h
  rwa [show ((x.toNat : Nat) : Int) = x by omega] at h
theorem and252w (x : Int) (h0 : 0 ≤ x) (h1 : x ≤ 255) : bits .and .u32 x 252 = x - x % 4 := by
  have : ∀ n : Fin 256, bits .and .u32 (n.val : Int) 252 = (n.val : Int) - (n.val : Int) % 4 := by decide +kernel
  have h := this ⟨x.toNat, by omega⟩
  simp only at h
  rwa [show ((x.toNat : Nat) : Int) = x by omega] at h
theorem and255w (x : Int) (h0 : 0 ≤ x) (h1 : x < 4294967296) : bits .and .u32 x 255 = x % 256 :=
  bits_mask .u32 32 (by decide) (fun n h0 h1 => by rw [IntKind.wrap_u32']; omega) 8 (by decide) x h0 h1
theorem and3w (x : Int) (h0 : 0 ≤ x) (h1 : x < 4294967296) : bits .and .u32 x 3 = x % 4 :=
  bits_mask .u32 32 (by decide) (fun n h0 h1 => by rw [IntKind.wrap_u32']; omega) 2 (by decide) x h0 h1

set_option maxHeartbeats 1600000 in
set_option maxRecDepth 100000 in
theorem rclamp_any (p : Option Addr) (n c : Nat) (xs : List Int) (w : World) (h : Byt w p n c xs) (hn : 16 ≤ n) :
    Calls Try.prog 24 #[.slice p n c] w fun e w' => e = .returned (.agg (ints .u32 (clampL xs 16 ++ [0]))) ∧ Below w.heap.size w w' := by
  obtain ⟨b, o, rfl, hc⟩ := h.at_ (by omega)
  have HC := hidden hc
  have HR := hidden (fun j => rng_getD h.rng j)
  have hcap := h.cap
  have hle := h.le
  have HB := hidden (fun (wr : World) (hb : Below w.heap.size w wr) (j : Nat) (hj : j < n) => cell_below hb _ _ (hc j hj))
  have hlb := World.block_lt_of_cell? w _ (hc 0 (by omega))
  simp only at hlb
  obtain ⟨R, hR⟩ : ∃ R, clampL xs 16 ++ [0] = R := ⟨_, rfl⟩
  have HRE := Is.mk hR
  have hRl : R.length = 17 := by rw [← hR]; simp [clampL_len]
  have HIR := hidden (infoRL R hRl)
  have HZR := hidden (zeroRL R hRl)
  rw [hR]
  clear h hc hR hRl
  go_enter Try.func24, Try.ntmps24
  go_upto_region 2 with fail
  generalize hw1 : World.alloc _ (.cells _ 53) = w1
  have hZ : Wn .u32 w1 w.heap.size 53 (List.replicate 17 0) := by
    rw [← hw1]
    exact (Wn.new .u32 w 53 (List.replicate 17 0) _ rfl).alloc _
  have hA : Wn .u32 w1 (w.heap.size + 1) 53 (clampL xs 0 ++ List.replicate (17 - 0) 0) := by
    rw [← hw1]
    exact Wn.new' .u32 _ 53 (List.replicate 17 0) _ rfl _ (by simp)
  have hb : Below w.heap.size w w1 := by
    rw [← hw1]
    exact ((Below.refl _ w).alloc (Nat.le_refl _) _).alloc (by simp) _
  clear hw1
  obtain ⟨g, hg⟩ : ∃ g, w.heap.size = g := ⟨_, rfl⟩
  simp only [hg] at hA hZ hb hlb ⊢
  have HG := hidden hg
  have HA0 := hidden hA
  have HZ0 := hidden hZ
  have HB0 := hidden hb
  clear hA hZ hb hg
  go_wp2
  go_loopw [4] (fun i wr => ∃ j : Nat, j ≤ 16 ∧ i = .int .i64 j ∧ Wn .u32 wr (g + 1) 53 (clampL xs j ++ List.replicate (17 - j) 0) ∧ Wn .u32 wr g 53 (List.replicate 17 0) ∧ Below g w wr) (fun i _ => 16 - (intOf i).toNat)
  case atStart => exact ⟨0, by omega, rfl, HA0.out, HZ0.out, HB0.out⟩
  case round =>
    clear HA0 HZ0 HB0
    obtain ⟨j, hj, rfl, ha, hz, hb⟩ := hrel
    have HA := hidden ha
    have HZ := hidden hz
    have HBB := hidden hb
    clear ha hz hb
    by_cases hlt : j < 16
    · have hx := HB.out wr (by rw [HG.out]; exact HBB.out) j (by omega)
      have hr := HR.out j
      have hy := HA.out.cell j (by rw [List.length_append, clampL_len]; simp; omega)
      have hf := HA.out.fr j
      have HS : Hid (∀ v v2 : Int, v2 = clampI j (xs.getD j 0) → ∀ W : World, W = (wr.setCell ⟨g + 1, j, none⟩ (.int .u32 v)).setCell ⟨g + 1, j, none⟩ (.int .u32 v2) ∨ (W = wr.setCell ⟨g + 1, j, none⟩ (.int .u32 v2)) → Wn .u32 W (g + 1) 53 (clampL xs (j + 1) ++ List.replicate (17 - (j + 1)) 0) ∧ Wn .u32 W g 53 (List.replicate 17 0) ∧ Below g w W) := fun v v2 hv W hW => by
        have hsf := set_fill (clampL xs j) 17 j v2 (clampL_len _ _) (by omega)
        rw [hv] at hsf
        rcases hW with rfl | rfl
        · have h1 := (HA.out.set j v).set j v2
          rw [List.set_set] at h1
          rw [hv] at h1 ⊢
          rw [hsf] at h1
          exact ⟨h1, (HZ.out.other _ _ (by simp)).other _ _ (by simp), (HBB.out.setCell (by simp) _).setCell (by simp) _⟩
        · have h1 := HA.out.set j v2
          rw [hv] at h1 ⊢
          rw [hsf] at h1
          exact ⟨h1, HZ.out.other _ _ (by simp), HBB.out.setCell (by simp) _⟩
      have hcl : clampI j (xs.getD j 0) = clampI j (xs.getD j 0) := rfl
      generalize hxj : xs.getD j 0 = x at *
      have hu : IntKind.u32.wrap x = x := by rw [IntKind.wrap_u32']; omega
      have ha15 := and15w x hr.1 hr.2
      have ha252 := and252w x hr.1 hr.2
      have b0 : (j : Int) < 16 := by omega
      have b1 : (0 : Int) ≤ (j : Int) := by omega
      have b2 : (j : Int) < 17 := by omega
      have b3 : (j : Int) < (n : Int) := by omega
      clear hcl hxj
      by_cases h3 : j % 4 = 3
      · have e1 : ((j : Int) % 4 == 3) = true := by simp; omega
        have e2 : ((j : Int) % 4 == 0) = false := by simp; omega
        have hv : x % 16 = clampI j x := by unfold clampI; rw [if_pos h3]
        have HN := hidden (HS.out x (x % 16) hv _ (Or.inl rfl))
        clear hv
        go_wp2
        go_roundw
        case rel => exact ⟨j + 1, by omega, by go_num, HN.out.1, HN.out.2.1, HN.out.2.2⟩
        case measure => simp [intOf]; omega
      · have e1 : ((j : Int) % 4 == 3) = false := by simp; omega
        by_cases h0 : j % 4 = 0 ∧ 0 < j
        · have e2 : ((j : Int) % 4 == 0) = true := by simp; omega
          have e3 : (0 : Int) < (j : Int) := by omega
          have e4 : decide ((0 : Int) < (j : Int)) = true := by simp; omega
          have hv : x - x % 4 = clampI j x := by unfold clampI; rw [if_neg h3, if_pos h0]
          have HN := hidden (HS.out x (x - x % 4) hv _ (Or.inl rfl))
          clear hv
          go_wp2
          go_roundw
          case rel => exact ⟨j + 1, by omega, by go_num, HN.out.1, HN.out.2.1, HN.out.2.2⟩
          case measure => simp [intOf]; omega
        · have hv : x = clampI j x := by unfold clampI; rw [if_neg h3, if_neg h0]
          have HN := hidden (HS.out x x hv _ (Or.inr rfl))
          clear hv
          by_cases h4 : j % 4 = 0
          · have e2 : ((j : Int) % 4 == 0) = true := by simp; omega
            have hj0 : ¬ (0 : Int) < (j : Int) := by omega
            have e4 : decide ((0 : Int) < (j : Int)) = false := by simp; omega
            go_wp2
            go_roundw
            case rel => exact ⟨j + 1, by omega, by go_num, HN.out.1, HN.out.2.1, HN.out.2.2⟩
            case measure => simp [intOf]; omega
          · have e2 : ((j : Int) % 4 == 0) = false := by simp; omega
            go_wp2
            go_roundw
            case rel => exact ⟨j + 1, by omega, by go_num, HN.out.1, HN.out.2.1, HN.out.2.2⟩
            case measure => simp [intOf]; omega
    · have hj16 : j = 16 := by omega
      have hge : ¬ (j : Int) < 16 := by omega
      have hae := HA.out
      rw [hj16] at hae
      have HE : Hid (Wn .u32 wr (g + 1) 53 R) := by rw [← HRE.eq]; exact hae
      clear hj16 hae HA
      go_wp2_with (first
        | (refine wpList_load_row rfl 53 _ rfl (g + 1) rfl 53 _ (0, 0) _ HE.out.heap Try.underlying53 rfl HIR.out ?_)
        | (refine wpList_store_row rfl 53 _ _ rfl g (ints .u32 R) rfl rfl 53 _ HZ.out.heap HIR.out HZR.out (onek .u32 R) ?_)
        | fail)
      refine bodyPost_ret (results_cell_row rfl _ _ g 53 _ _ _ rfl (HZ.out.row R).heap Try.underlying53 rfl HIR.out) rfl ?_
      exact ⟨rfl, by rw [HG.out]; exact below_setRow HBB.out (Nat.le_refl _) _⟩
end Go.Proofs.Ytnbpangegegccaa
