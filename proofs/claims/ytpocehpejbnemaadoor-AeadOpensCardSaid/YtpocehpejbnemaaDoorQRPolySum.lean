/-
  The document's Sum of a key that has its length.
-/
import Derived.Test.YtpocehpejbnemaaDoorQZ2
import Derived.Test.YtpocehpejbnemaaDoorQPolySum
import Derived.Deep.Cut
import Derived.Deep.CutRange
namespace Go.Proofs.YtpocehpejbnemaaDoor
open Go.RowKit
set_option linter.unusedVariables false
set_option linter.unusedSimpArgs false

theorem tag_gen (key b M : List Int) (hM : 16 ≤ M.length) (x c : Int) (hx : num 256 M = x) (hc : x = accS (rS key) b (piecesN b.length) + 340282366920938463463374607431768211456 * c) :
    tagS key b = dig 256 16 (num 256 (M.take 16) + num 256 (key.drop 16)) := by
  have h1 : num 256 M = num 256 (M.take 16) + 256 ^ 16 * num 256 (M.drop 16) := by
    have := num_append 256 (M.take 16) (M.drop 16)
    rw [List.take_append_drop, List.length_take, show min 16 M.length = 16 by omega] at this
    exact this
  unfold tagS
  have h3 : accS (rS key) b (piecesN b.length) + num 256 (key.drop 16) = num 256 (M.take 16) + num 256 (key.drop 16) + 256 ^ 16 * (num 256 (M.drop 16) - c) := by
    rw [p16] at h1 ⊢
    rw [Int.mul_sub]
    omega
  rw [h3, dig_add _ (by omega)]
theorem final_val (V acc t : Int) (h0 : 0 ≤ V) (h1 : V < 1361129467683753853853498429727072845824) (ha : 0 ≤ acc ∧ acc < P130) (h : V + t * P130 = acc) (X : Int) (hX : X = if 4 ≤ (V + 5) / 340282366920938463463374607431768211456 then V + 5 else V) :
    ∃ c, X = acc + 340282366920938463463374607431768211456 * c := by
  unfold P130 at ha h
  have ht : t = 0 ∨ t = -1 := by omega
  rcases ht with rfl | rfl
  · refine ⟨0, ?_⟩
    split at hX <;> omega
  · refine ⟨4, ?_⟩
    split at hX <;> omega
/-- The number, and 5 on top, digit by digit. -/
def out5 (H : List Int) (j : Nat) : Int := (num 256 (H.take j) + 5) / 256 ^ j
theorem out5_zero (H : List Int) : out5 H 0 = 5 := by simp [out5, num]
theorem out5_succ (H : List Int) (j : Nat) (hj : j < H.length) : out5 H (j + 1) = (out5 H j + H.getD j 0) / 256 := carry_out 256 5 (by omega) H j hj
theorem dig5_succ (H : List Int) (j : Nat) (hj : j < H.length) : dig 256 (j + 1) (num 256 (H.take (j + 1)) + 5) = dig 256 j (num 256 (H.take j) + 5) ++ [(out5 H j + H.getD j 0) % 256] := carry_dig 256 5 (by omega) H j hj
theorem out5_rng (H : List Int) (hl : H.length = 17) (h : ∀ i, 0 ≤ H.getD i 0 ∧ H.getD i 0 ≤ 255) (j : Nat) (hj : j ≤ 17) : 0 ≤ out5 H j ∧ out5 H j ≤ 5 := by
  induction j with
  | zero => rw [out5_zero]; omega
  | succ j ih =>
    have := ih (by omega)
    have := h j
    rw [out5_succ H j (by omega)]
    omega
theorem dig0_succ (H : List Int) (j : Nat) (hj : j < H.length) : dig 256 (j + 1) (num 256 (H.take (j + 1))) = dig 256 j (num 256 (H.take j)) ++ [(outB H j + H.getD j 0) % 256] := by
  have := carry_dig 256 0 (by omega) H j hj
  simp only [Int.add_zero] at this
  exact this
/-- What lies where. -/
structure RsI (w wr : World) (gr gh : Nat) (RL H : List Int) : Prop where
  r : Wn .u32 wr gr 123 RL
  h : Wn .u32 wr gh 123 H
  bel : Below w.heap.size w wr
theorem RsI.set {w wr : World} {gr gh : Nat} {RL H : List Int} (h : RsI w wr gr gh RL H) (hne : gr ≠ gh) (hw : w.heap.size ≤ gh) (j : Nat) (v : Int) : RsI w (wr.setCell ⟨gh, j, none⟩ (.int .u32 v)) gr gh RL (H.set j v) :=
  ⟨h.r.other _ _ hne, h.h.set _ _, h.bel.setCell hw _⟩
theorem RsI.drew {w wr : World} {gr gh : Nat} {RL H : List Int} (h : RsI w wr gr gh RL H) : RsI w wr.drew gr gh RL H := ⟨h.r.drew, h.h.drew, h.bel.drew⟩
theorem RsI.below {w wr wq : World} {gr gh : Nat} {RL H : List Int} (h : RsI w wr gr gh RL H) (hb : Below wr.heap.size wr wq) : RsI w wq gr gh RL H := ⟨h.r.below hb, h.h.below hb, h.bel.trans (hb.mono h.bel.size)⟩
theorem small_inv (S : List Int) (hl : S.length = 17) (h : ∀ i, 0 ≤ S.getD i 0 ∧ S.getD i 0 ≤ 100000) : InvR 0 S :=
  ⟨hl, fun i => by have := h i; omega, fun _ i => by have := h i; omega, fun h => by omega, fun h => by omega, fun h => by omega⟩
theorem bound_set (S : List Int) (hl : S.length = 17) (B B' : Int) (h : ∀ i, 0 ≤ S.getD i 0 ∧ S.getD i 0 ≤ B) (hB : B ≤ B') (j : Nat) (v : Int) (hv : 0 ≤ v ∧ v ≤ B') : ∀ i, 0 ≤ (S.set j v).getD i 0 ∧ (S.set j v).getD i 0 ≤ B' := fun i => by
  by_cases hi : i < 17
  · rw [getD_setP _ _ _ _ (by omega)]
    split
    · exact hv
    · have := h i; omega
  · rw [List.getD_eq_getElem?_getD, List.getElem?_eq_none (by rw [List.length_set]; omega)]
    simp; omega

set_option maxHeartbeats 3200000 in
set_option maxRecDepth 100000 in
theorem rsum_yes (p r : Option Addr) (c n e : Nat) (key b : List Int) (w : World) (h : Byt w p 32 c key) (hb : Byt w r n e b) (hn : n ≤ 100000) :
    Calls Tryd.prog 40 #[.slice p 32 c, .slice r n e] w fun en w' => ∃ v, en = .returned (.tuple #[v, .bool true]) ∧ Own w' w.heap.size 5 v (tagS key b) ∧ Below w.heap.size w w' := by
  obtain ⟨TG, hTG⟩ : ∃ TG, tagS key b = TG := ⟨_, rfl⟩
  rw [hTG]
  have HTG := Is.mk hTG
  have HKL := Is.mk h.len
  have HBL := Is.mk hb.len
  have hcap := h.cap
  have hbc := hb.cap
  obtain ⟨i0, hi, hz0, hz1, hz2⟩ := info_parts Tryd.infoByte
  have HX := hidden h
  have HB := hidden hb
  have HKR := hidden (fun j => rng_getD h.rng j)
  obtain ⟨RL, hRL⟩ : ∃ RL, clampL key 16 ++ [0] = RL := ⟨_, rfl⟩
  have HRL : Is RL.length 17 := ⟨by rw [← hRL]; simp [clampL_len]⟩
  have HRN : Is (num 256 RL) (rS key) := ⟨by rw [← hRL, num_append]; simp [num, rS]⟩
  have HRR : Hid (∀ i, 0 ≤ RL.getD i 0 ∧ RL.getD i 0 ≤ 255) := fun i => by
    refine rng_getD (xs := RL) ?_ i
    rw [← hRL]
    exact rng_append (clampL_rng key 16 (fun j => rng_getD h.rng j)) (by decide)
  have HCL := hidden (rclamp_any p 32 c key w h (by omega))
  rw [hRL] at HCL
  have HIR := hidden (infoRL RL HRL.eq)
  have HZR := hidden (zeroRL RL HRL.eq)
  clear hTG hRL h hb
  go_enter Tryd.func40, Tryd.ntmps40
  go_upto_region 5 with (first
    | (go_at_call 81; (with_reducible refine (HCL.out).mono ?_); rintro e1 w1 ⟨rfl, hb1⟩; have HB1 := hidden hb1; clear hb1)
    | (refine wpList_store_row rfl 123 _ _ rfl w1.heap.size (ints .u32 RL) rfl rfl 123 _ (heap_alloc_new w1 _) HIR.out HZR.out (onek .u32 RL) ?_)
    | fail)
  generalize hw2 : World.alloc _ (.cells _ 123) = w2
  obtain ⟨gr, hgr⟩ : ∃ gr, w1.heap.size = gr := ⟨_, rfl⟩
  have hwg : w.heap.size ≤ gr := by have := HB1.out.size; omega
  have HI0 : Hid (RsI w w2 gr (gr + 1) RL (List.replicate 17 0)) := by
    rw [← hw2, hgr]
    refine hidden ⟨?_, ?_, ?_⟩
    · exact ((Wn.new' .u32 w1 123 (List.replicate 17 0) _ rfl gr hgr).row RL).alloc _
    · exact Wn.new' .u32 _ 123 (List.replicate 17 0) _ rfl _ (by simp; omega)
    · exact (below_setRow (HB1.out.alloc HB1.out.size _) hwg _).alloc (by simp; omega) _
  have HNR0 : Hid (Nrm (List.replicate 17 0)) := by
    refine hidden ⟨by simp, fun i => ?_, by decide⟩
    rw [List.getD_eq_getElem?_getD, List.getElem?_replicate]
    split <;> simp
  have HT0 : Hid (num 256 (List.replicate 17 (0 : Int)) + 0 * P130 = accS (rS key) b 0) := by
    show num 256 (List.replicate 17 (0 : Int)) + 0 * P130 = accS (rS key) b 0
    have e1 : num 256 (List.replicate 17 (0 : Int)) = 0 := by decide
    have e2 : accS (rS key) b 0 = 0 := rfl
    rw [e1, e2]
    omega
  simp only [hgr]
  have hne : gr ≠ gr + 1 := by omega
  have hwg1 : w.heap.size ≤ gr + 1 := by omega
  clear hw2 hgr HB1 HCL
  go_wp2
  go_loopw [8] (fun i wr => ∃ (k : Nat) (H : List Int) (t : Int), 16 * k < n + 16 ∧ i = .int .i64 ((16 * k : Nat) : Int) ∧ RsI w wr gr (gr + 1) RL H ∧ Hid (Nrm H) ∧ Hid (num 256 H + t * P130 = accS (rS key) b k)) (fun i _ => (n + 16) - (intOf i).toNat)
  case atStart => exact ⟨0, List.replicate 17 0, 0, by omega, rfl, HI0.out, HNR0, HT0⟩
  case round =>
    clear HI0 HNR0 HT0
    obtain ⟨k, H, t, hk, rfl, hi, HNR, HT⟩ := hrel
    have HI := hidden hi
    clear hi
    by_cases hlt : 16 * k < n
    · obtain ⟨m, hm⟩ : ∃ m, (if n < 16 * k + 16 then n - 16 * k else 16) = m := ⟨_, rfl⟩
      have hm16 : m ≤ 16 := by split at hm <;> omega
      have hmle : 16 * k + m ≤ n := by split at hm <;> omega
      have hml : ((b.drop (16 * k)).take 16).length = m := by
        rw [List.length_take, List.length_drop, HBL.eq]
        split at hm <;> omega
      have HSM := hidden (fun (x t1 t2 : Int) => step_val (rS key) (accS (rS key) b k) (num 256 H) (markS ((b.drop (16 * k)).take 16)) x t t1 HT.out)
      have HAC := Is.mk (accS_succ (rS key) b k)
      have HMK : Is (markS ((b.drop (16 * k)).take 16)) (num 256 ((b.drop (16 * k)).take 16) + 256 ^ m) := ⟨by rw [markS, hml]⟩
      have HPG := hidden (fun i (hi : i < m) => (show ((b.drop (16 * k)).take 16).getD i 0 = b.getD (16 * k + i) 0 by rw [List.getD_eq_getElem?_getD, List.getElem?_take, if_pos (by omega), List.getElem?_drop, ← List.getD_eq_getElem?_getD]))
      have HPT := hidden (fun i (hi : i < m) => num_take 256 ((b.drop (16 * k)).take 16) i (by rw [hml]; exact hi))
      have HPE : Is (((b.drop (16 * k)).take 16).take m) ((b.drop (16 * k)).take 16) := ⟨List.take_of_length_le (by omega)⟩
      generalize (b.drop (16 * k)).take 16 = P at *
      have hlt' : ((16 * k : Nat) : Int) < (n : Int) := by omega
      have hmin : (if (n : Int) - ((16 * k : Nat) : Int) < 16 then (n : Int) - ((16 * k : Nat) : Int) else 16) = (m : Int) := by
        split at hm <;> split <;> omega
      obtain ⟨at_, hat⟩ : ∃ at_, 16 * k = at_ := ⟨_, rfl⟩
      have HAM : Hid (16 * k = at_ ∧ at_ + m ≤ n ∧ at_ < n) := ⟨hat, by omega, by omega⟩
      simp only [hat] at hlt' hmin HPG ⊢
      have HS0 : Is (num 256 H) (num 256 H + num 256 (P.take 0)) := ⟨by simp [num]⟩
      have HHL := Is.mk HNR.out.len
      have HSR0 : Hid (∀ i, 0 ≤ H.getD i 0 ∧ H.getD i 0 ≤ 255 + 256 * ((0 : Nat) : Int)) := fun i => by have := HNR.out.dig i; omega
      clear hm hml hat hmle
      go_wp2
      rename World => wo
      obtain ⟨NH, hNH⟩ : ∃ NH, num 256 H = NH := ⟨_, rfl⟩
      rw [hNH] at HS0 HSM
      go_loopw [10] (fun i wr => ∃ (j : Nat) (S : List Int), j ≤ m ∧ i = .int .i64 j ∧ RsI w wr gr (gr + 1) RL S ∧ S.length = 17 ∧ Hid (∀ i, 0 ≤ S.getD i 0 ∧ S.getD i 0 ≤ 255 + 256 * (j : Int)) ∧ Is (num 256 S) (NH + num 256 (P.take j))) (fun i _ => m - (intOf i).toNat)
      case atStart => exact ⟨0, H, by omega, rfl, HI.out, HHL.eq, HSR0, ⟨by rw [hNH]; exact HS0.eq⟩⟩
      case round =>
        clear HI HS0 HSR0 HNR hNH HHL
        obtain ⟨j, S, hj, rfl, hi, hSl, HSR, HNS⟩ := hrel
        have HI := hidden hi
        have HSL := Is.mk hSl
        clear hi hSl
        by_cases hjm : j < m
        · obtain ⟨bb, ob, rfl, hc⟩ := HB.out.at_ (by have := HAM.out; omega)
          have hx := cell_below HI.out.bel _ _ (hc (at_ + j) (by have := HAM.out; omega))
          have hxr := rng_getD HB.out.rng (at_ + j)
          have hs := HI.out.h.cell j (by rw [HSL.eq]; omega)
          have hf := HI.out.h.fr j
          have hsr := HSR.out j
          have hcapb := HB.out.cap
          have HST := Is.mk (num_set 256 S j (by rw [HSL.eq]; omega) (b.getD (at_ + j) 0))
          have hpt := HPT.out j hjm
          rw [HPG.out j hjm] at hpt
          have HPTJ := Is.mk hpt
          generalize b.getD (at_ + j) 0 = x at *
          have HSR2 := hidden (bound_set S HSL.eq _ (255 + 256 * ((j + 1 : Nat) : Int)) HSR.out (by omega) j (S.getD j 0 + x) (by omega))
          have HIS := hidden ((HI.out.set hne hwg1 j (S.getD j 0 + x)).drew)
          generalize S.getD j 0 = s at *
          have wx : IntKind.u32.wrap x = x := by rw [IntKind.wrap_u32']; omega
          have w0 : IntKind.u32.wrap (s + x) = s + x := by rw [IntKind.wrap_u32']; omega
          have b0 : (j : Int) < (m : Int) := by omega
          have b1 : (0 : Int) ≤ (j : Int) := by omega
          have b2 : (j : Int) < 17 := by omega
          have b3 : (0 : Int) ≤ (at_ : Int) + (j : Int) := by omega
          have b4 : (at_ : Int) + (j : Int) < (n : Int) := by have := HAM.out; omega
          have b5 : ((at_ : Int) + (j : Int)).toNat = at_ + j := by omega
          have hbs : ¬ bb = gr + 1 := fun e => by
            have := World.block_lt_of_cell? w _ (hc 0 (by omega))
            simp only at this
            omega
          clear hc hpt hsr
          go_upto_region 12 with fail
          go_region
          generalize World.drew _ = w9 at *
          go_wp2
          go_roundw
          case rel => exact ⟨j + 1, _, by omega, by go_num, HIS.out, by rw [List.length_set, HSL.eq], HSR2, ⟨by rw [HST.eq, HNS.eq, HPTJ.eq]; omega⟩⟩
          case measure => simp [intOf]; omega
        · have hjm' : j = m := by omega
          have hge : ¬ (j : Int) < (m : Int) := by omega
          have hns := HNS.eq
          rw [hjm', HPE.eq] at hns
          have HNE := Is.mk hns
          have hs := HI.out.h.cell m (by rw [HSL.eq]; omega)
          have hf := HI.out.h.fr m
          have hsr := HSR.out m
          have HST := Is.mk (num_set 256 S m (by rw [HSL.eq]; omega) 1)
          have HIS := hidden (HI.out.set hne hwg1 m (S.getD m 0 + 1))
          have HIV := hidden (small_inv (S.set m (S.getD m 0 + 1)) (by rw [List.length_set, HSL.eq]) (bound_set S HSL.eq _ 100000 HSR.out (by omega) m (S.getD m 0 + 1) (by omega)))
          generalize hSN : S.set m (S.getD m 0 + 1) = SN at *
          generalize S.getD m 0 = s at *
          have w0 : IntKind.u32.wrap (s + 1) = s + 1 := by rw [IntKind.wrap_u32']; omega
          have b1 : (0 : Int) ≤ (m : Int) := by omega
          have b2 : (m : Int) < 17 := by omega
          have HSV : Is (num 256 SN) (NH + markS P) := ⟨by rw [HST.eq, HNE.eq, HMK.eq]; omega⟩
          have HISL := hidden (infoRL SN HIV.out.len)
          clear hjm' hns hsr HST HNE hSN HNS HI
          go_upto_region 14 with fail
          generalize World.setCell _ _ _ = w9 at *
          refine region_C (c := 4) (S0 := fun _ => True) (S1 := fun w' => Wn .u32 w' (gr + 1) 123 SN ∧ Wn .u32 w' gr 123 RL) (by kernel_rfl) trivial ⟨HIS.out.h.drew, HIS.out.r.drew⟩ (fun _ hS1 => ?_)
          refine anyC_take1 (i := 0) (v := .agg (ints .u32 SN)) rfl rfl (by decide) (by kernel_rfl) (by kernel_rfl) (by kernel_rfl) (by kernel_rfl) (by kernel_rfl) (fun _ _ _ h => h) (Or.inl ⟨by rfl, ?_⟩) trivial hS1 ?_
          · rintro w0 ⟨-, t0, t1⟩
            exact exec_load_row 123 _ rfl (gr + 1) rfl 123 _ (0, 0) _ t0.heap Tryd.underlying123 rfl HISL.out
          (try simp only [Act.put, List.setIfInBounds_toArray, List.set_cons_zero, List.set_cons_succ])
          refine anyC_take1 (i := 2) (v := .agg (ints .u32 RL)) rfl rfl (by decide) (by kernel_rfl) (by kernel_rfl) (by kernel_rfl) (by kernel_rfl) (by kernel_rfl) (fun _ _ _ h => h) (Or.inl ⟨by rfl, ?_⟩) trivial hS1 ?_
          · rintro w0 ⟨-, t0, t1⟩
            exact exec_load_row 123 _ rfl gr rfl 123 _ (0, 0) _ t1.heap Tryd.underlying123 rfl HIR.out
          (try simp only [Act.put, List.setIfInBounds_toArray, List.set_cons_zero, List.set_cons_succ])
          refine anyC_one (i := 1) (by kernel_rfl) rfl (fun K' hK' => ?_)
          go_simp
          go_at_call 83
          with_reducible refine (rcarry_any SN HIV.out w9.drew).mono ?_
          rintro e3 w3 ⟨C, rfl, hnC, ⟨t3, ht3⟩, hb3⟩
          have hS3 := (show Wn .u32 w3 (gr + 1) 123 SN ∧ Wn .u32 w3 gr 123 RL from ⟨hS1.1.below hb3, hS1.2.below hb3⟩)
          refine hK'.out _ _ trivial (fun _ => hS3) ?_
          have HI3 : Hid (RsI w w3 gr (gr + 1) RL SN) := hidden (HIS.out.drew.below hb3)
          have HNC := hidden hnC
          have HT3 := hidden ht3
          clear hK' K' hb3 hS1 hnC ht3
          (try simp only [Act.put, List.setIfInBounds_toArray, List.set_cons_zero, List.set_cons_succ])
          refine anyC_one (i := 3) (by kernel_rfl) rfl (fun K' hK' => ?_)
          go_simp
          go_at_call 82
          with_reducible refine (rproduct_any C RL HNC.out.len HRL.eq HNC.out.dig HRR.out w3).mono ?_
          rintro e4 w4 ⟨R, rfl, hnR, ⟨t4, ht4⟩, hb4⟩
          have hS4 := (show Wn .u32 w4 (gr + 1) 123 SN ∧ Wn .u32 w4 gr 123 RL from ⟨hS3.1.below hb4, hS3.2.below hb4⟩)
          refine hK'.out _ _ trivial (fun _ => hS4) ?_
          have HI4 : Hid (RsI w w4 gr (gr + 1) RL SN) := hidden (HI3.out.below hb4)
          have HNR := hidden hnR
          have HIR4 := hidden (infoRL R hnR.len)
          have HZR4 : Hid ((ints .u32 SN).size = (ints .u32 R).size) := by show _ = _; rw [ints_size, ints_size, hnR.len, HIV.out.len]
          have HTE : Hid (∃ t', num 256 R + t' * P130 = accS (rS key) b (k + 1)) := by
            refine HSM.out (num 256 R) (t4 + t3 * rS key) 0 ?_ _ ?_
            · have h3 := HT3.out
              rw [HSV.eq] at h3
              rw [HRN.eq] at ht4
              have : num 256 C = NH + markS P - t3 * P130 := by omega
              rw [this] at ht4
              grind
            · rw [HAC.eq, stepP]
          clear hK' K' hb4 hS3 hnR ht4
          (try simp only [Act.put, List.setIfInBounds_toArray, List.set_cons_zero, List.set_cons_succ])
          refine anyC_one (i := 4) (by kernel_rfl) rfl (fun K' hK' => ?_)
          refine op_of_skip rfl (exec_store_row 123 _ _ rfl (gr + 1) (ints .u32 R) rfl rfl 123 _ hS4.1.heap HIR4.out HZR4.out (onek .u32 R)) (hK'.out _ _ trivial (fun h => nomatch (h.symm.trans (by kernel_rfl) : false = true)) ?_)
          clear hK' K'
          refine anyC_done (by kernel_rfl) ?_ _
          have HI5 : Hid (RsI w (w4.setRow (gr + 1) (ints .u32 R)) gr (gr + 1) RL R) := hidden ⟨hS4.2.rowOther _ _ hne, hS4.1.row R, below_setRow HI4.out.bel hwg1 _⟩
          obtain ⟨t5, ht5⟩ := HTE.out
          have HT5 := hidden ht5
          have b3 : (at_ : Int) + 16 = ((16 * (k + 1) : Nat) : Int) := by have := HAM.out; omega
          have b4 : at_ ≤ 100000 := by have := HAM.out; omega
          have HLT2 := hidden (show 16 * (k + 1) < n + 16 by have := HAM.out; omega)
          clear hS4 ht5 HTE
          (try simp only [Act.put, List.setIfInBounds_toArray, List.set_cons_zero, List.set_cons_succ])
          generalize World.setRow _ _ _ = w5 at *
          go_wp2
          go_roundw
          case rel => exact ⟨k + 1, R, t5, HLT2.out, by go_num, HI5.out, HNR, HT5⟩
          case measure => have := HAM.out; simp [intOf]; omega
    · have hge : ¬ ((16 * k : Nat) : Int) < (n : Int) := by omega
      have hkp : k = piecesN n := by unfold piecesN; omega
      have HAR := hidden (accS_rng (rS key) b k)
      have HKP : Is (accS (rS key) b k) (accS (rS key) b (piecesN b.length)) := ⟨by rw [HBL.eq, ← hkp]⟩
      have HIV := hidden (small_inv H HNR.out.len (fun i => by have := HNR.out.dig i; omega))
      have HIH := hidden (infoRL H HNR.out.len)
      have HHL := Is.mk HNR.out.len
      generalize accS (rS key) b k = AC at *
      clear hkp HNR
      go_upto_region 18 with (first
        | (refine wpList_load_row rfl 123 _ rfl (gr + 1) rfl 123 _ (0, 0) _ HI.out.h.heap Tryd.underlying123 rfl HIH.out ?_)
        | (go_at_call 83; (with_reducible refine (rcarry_any H HIV.out wr).mono ?_); rintro e4 w4 ⟨C, rfl, hnC, hT4, hb4⟩; have HNC := hidden hnC; have HT4 := hidden hT4; have HI4 := hidden (HI.out.below hb4); have HIC := hidden (infoRL C hnC.len); have HZC : Hid ((ints .u32 H).size = (ints .u32 C).size) := (show _ = _ by rw [ints_size, ints_size, hnC.len, HHL.eq]); clear hnC hT4 hb4)
        | (refine wpList_store_row rfl 123 _ _ rfl (gr + 1) (ints .u32 C) rfl rfl 123 _ HI4.out.h.heap HIC.out HZC.out (onek .u32 C) ?_)
        | fail)
      obtain ⟨gg, hgg⟩ : ∃ gg, w4.heap.size = gg := ⟨_, rfl⟩
      have hggr : gr + 1 < gg := by have := HI4.out.h.lt; omega
      generalize hw5 : World.alloc _ (.cells _ 123) = w5
      have HI5 : Hid (RsI w w5 gr (gr + 1) RL C) := by
        rw [← hw5]
        exact hidden ⟨(HI4.out.r.rowOther _ _ hne).alloc _, (HI4.out.h.row C).alloc _, (below_setRow HI4.out.bel hwg1 _).alloc (by simp; omega) _⟩
      have HG5 : Hid (Wn .u32 w5 gg 123 (dig 256 0 (num 256 (C.take 0) + 5) ++ List.replicate (17 - 0) 0)) := by
        rw [← hw5]
        exact hidden (Wn.new' .u32 _ 123 (List.replicate 17 0) _ rfl _ (by simp; omega))
      have HOUT0 := Is.mk (out5_zero C)
      have HOS5 := hidden (fun j (hj : j < 17) => out5_succ C j (by rw [HNC.out.len]; exact hj))
      have HDS5 := hidden (fun j (hj : j < 17) => dig5_succ C j (by rw [HNC.out.len]; exact hj))
      have HOR5 := hidden (fun j (hj : j ≤ 17) => out5_rng C HNC.out.len HNC.out.dig j hj)
      have HTV : Hid (∃ t', num 256 C + t' * P130 = AC) := by
        obtain ⟨t4, h4⟩ := HT4.out
        exact hidden ⟨t4 + t, by rw [← HT.out, ← h4]; grind⟩
      have HCL := Is.mk HNC.out.len
      simp only [size_setRow, hgg]
      clear hw5 hgg HI4 HT4 HI HIV HIH HT
      go_wp2
      rename World => wo
      go_loopw [12, 13] (fun u i wr => ∃ j : Nat, j ≤ 17 ∧ i = .int .i64 j ∧ u = .int .u32 (out5 C j) ∧ RsI w wr gr (gr + 1) RL C ∧ Wn .u32 wr gg 123 (dig 256 j (num 256 (C.take j) + 5) ++ List.replicate (17 - j) 0)) (fun _ i _ => 17 - (intOf i).toNat)
      case atStart => exact ⟨0, by omega, rfl, by rw [HOUT0.eq], HI5.out, HG5.out⟩
      case round =>
        clear HI5 HG5 HOUT0
        obtain ⟨j, hj, rfl, rfl, hi, hgw⟩ := hrel
        have HI := hidden hi
        have HGW := hidden hgw
        clear hi hgw
        by_cases hj17 : j < 17
        · have hx := HI.out.h.cell j (by rw [HCL.eq]; omega)
          have hxr := HNC.out.dig j
          have hgc := HGW.out.cell j (by rw [List.length_append, dig_len]; simp; omega)
          have hgf := HGW.out.fr j
          have hur := HOR5.out j hj
          have HS1 := Is.mk (HOS5.out j hj17)
          have HS2 := Is.mk (HDS5.out j hj17)
          have HSF := hidden (fun v => set_fill (dig 256 j (num 256 (C.take j) + 5)) 17 j v (dig_len _ _ _) hj17)
          generalize C.getD j 0 = x at *
          generalize out5 C j = u at *
          have w0 : IntKind.u32.wrap (u + x) = u + x := by rw [IntKind.wrap_u32']; omega
          have ha := and255w (u + x) (by omega) (by omega)
          have HN1 : Hid (Wn .u32 (wr.setCell ⟨gg, j, none⟩ (.int .u32 ((u + x) % 256))) gg 123 (dig 256 (j + 1) (num 256 (C.take (j + 1)) + 5) ++ List.replicate (17 - (j + 1)) 0)) := by
            rw [HS2.eq, ← HSF.out]
            exact hidden (HGW.out.set j _)
          have HN2 : Hid (RsI w (wr.setCell ⟨gg, j, none⟩ (.int .u32 ((u + x) % 256))) gr (gr + 1) RL C) := hidden ⟨HI.out.r.other _ _ (by simp; omega), HI.out.h.other _ _ (by simp; omega), HI.out.bel.setCell (by simp; omega) _⟩
          have b0 : (j : Int) < 17 := by omega
          have b1 : (0 : Int) ≤ (j : Int) := by omega
          go_wp2
          go_roundw
          case rel => exact ⟨j + 1, by omega, by go_num, by rw [HS1.eq], HN2.out, HN1.out⟩
          case measure => simp [intOf]; omega
        · have hje : j = 17 := by omega
          have hge17 : ¬ (j : Int) < 17 := by omega
          have hgw := HGW.out
          rw [hje, List.take_of_length_le (by rw [HCL.eq]; omega)] at hgw
          obtain ⟨G, hG⟩ : ∃ G, dig 256 17 (num 256 C + 5) = G := ⟨_, rfl⟩
          have hgw2 : Wn .u32 wr gg 123 G := by rw [← hG]; simpa using hgw
          have hvb : 0 ≤ num 256 C ∧ num 256 C < 1361129467683753853853498429727072845824 := ⟨num_nonneg (by omega) C (fun x hx => by
            obtain ⟨i, hi, rfl⟩ := List.getElem_of_mem hx
            have := (HNC.out.dig i).1
            rw [List.getD_eq_getElem?_getD, List.getElem?_eq_getElem hi] at this
            simpa using this), HNC.out.lt⟩
          have hGl : G.length = 17 := by rw [← hG]; exact dig_len _ _ _
          have hGv : num 256 G = num 256 C + 5 := by
            rw [← hG, num_dig 256 (by omega), p17]
            omega
          have hGr : ∀ i, i < 17 → 0 ≤ G.getD i 0 ∧ G.getD i 0 ≤ 255 := fun i hi => by
            rw [← hG, dig_getD 256 (by omega) _ _ _ hi]
            omega
          have hGt : G.getD 16 0 = (num 256 C + 5) / 340282366920938463463374607431768211456 := by
            rw [← hG, dig_getD 256 (by omega) _ _ _ (by omega), p16]
            omega
          have HGW2 := hidden hgw2
          have HGL := Is.mk hGl
          have HGV := Is.mk hGv
          have HGR := hidden hGr
          have HGT := Is.mk hGt
          have HVB := hidden hvb
          have hx16 := hgw2.cell 16 (by omega)
          have h16 := hGr 16 (by omega)
          generalize G.getD 16 0 = y16 at *
          have HIG := hidden (infoRL G hGl)
          have HZG : Hid ((ints .u32 C).size = (ints .u32 G).size) := by show _ = _; rw [ints_size, ints_size, hGl, HCL.eq]
          clear hG hgw hgw2 hje hvb hGl hGv hGr hGt HGW
          go_upto_if 77 with fail
          go_cut [] from 75 to 78 (fun wx => ∃ X : List Int, X.length = 17 ∧ RsI w wx gr (gr + 1) RL X ∧ (∀ i, i < 17 → 0 ≤ X.getD i 0 ∧ X.getD i 0 ≤ 255) ∧ num 256 X = if 4 ≤ (num 256 C + 5) / 340282366920938463463374607431768211456 then num 256 C + 5 else num 256 C)
          case first =>
            by_cases h4 : 4 ≤ y16
            · have h4' : ¬ (y16 < 4) := by omega
              have HRN2 : Hid (RsI w (wr.setRow (gr + 1) (ints .u32 G)) gr (gr + 1) RL G) := hidden ⟨HI.out.r.rowOther _ _ hne, HI.out.h.row G, below_setRow HI.out.bel hwg1 _⟩
              go_wp2_with (first
                | (refine wpList_load_row rfl 123 _ rfl gg rfl 123 _ (0, 0) _ HGW2.out.heap Tryd.underlying123 rfl HIG.out ?_)
                | (refine wpList_store_row rfl 123 _ _ rfl (gr + 1) (ints .u32 G) rfl rfl 123 _ HI.out.h.heap HIG.out HZG.out (onek .u32 G) ?_)
                | fail)
              go_meet
              case rel => exact ⟨G, HGL.eq, HRN2.out, HGR.out, by rw [if_pos (by rw [← HGT.eq]; exact h4), HGV.eq]⟩
            · have h4' : y16 < 4 := by omega
              go_wp2
              go_meet
              case rel => exact ⟨C, HCL.eq, HI.out, fun i _ => HNC.out.dig i, by rw [if_neg (by rw [← HGT.eq]; omega)]⟩
          case rest =>
            obtain ⟨X, hXl, hXi, hXr, hXv⟩ := hcut
            obtain ⟨t', ht'⟩ := HTV.out
            obtain ⟨cc, hcc⟩ := final_val (num 256 C) AC t' HVB.out.1 HVB.out.2 HAR.out ht' (num 256 X) hXv
            rw [HKP.eq] at hcc
            have hkd : (key.drop 16).length = 16 := by rw [List.length_drop, HKL.eq]
            have hadn := addL_num 256 (X.take 16) (key.drop 16) (by rw [List.length_take, hXl, hkd]; rfl)
            have hTE : TG = dig 256 16 (num 256 (addL (X.take 16) (key.drop 16))) := by
              rw [← HTG.eq, tag_gen key b X (by omega) _ cc rfl hcc, hadn]
            have hAl : (addL (X.take 16) (key.drop 16)).length = 16 := by rw [addL_len, List.length_take, hXl, hkd]; rfl
            have HAG := hidden (fun i (hi : i < 16) => (show (addL (X.take 16) (key.drop 16)).getD i 0 = X.getD i 0 + key.getD (16 + i) 0 by
              rw [addL_get _ _ _ (by rw [List.length_take, hXl]; omega) (by rw [hkd]; omega)]
              congr 1
              · rw [List.getD_eq_getElem?_getD, List.getD_eq_getElem?_getD, List.getElem?_take, if_pos hi]
              · rw [List.getD_eq_getElem?_getD, List.getD_eq_getElem?_getD, List.getElem?_drop]))
            have HXG := hidden hXr
            have HZA : ∀ i, 0 ≤ (addL (X.take 16) (key.drop 16)).getD i 0 ∧ (addL (X.take 16) (key.drop 16)).getD i 0 ≤ 510 := fun i => by
              by_cases hi : i < 16
              · rw [HAG.out i hi]
                have := HXG.out i (by omega)
                have := HKR.out (16 + i)
                omega
              · rw [List.getD_eq_getElem?_getD, List.getElem?_eq_none (by rw [hAl]; omega)]; simp
            have HOSA := hidden (fun i (hi : i < 16) => outB_succ (addL (X.take 16) (key.drop 16)) i (by rw [hAl]; exact hi))
            have HDSA := hidden (fun i (hi : i < 16) => dig0_succ (addL (X.take 16) (key.drop 16)) i (by rw [hAl]; exact hi))
            have HORA := hidden (fun i (hi : i ≤ 16) => outB_rng (addL (X.take 16) (key.drop 16)) HZA i (by rw [hAl]; exact hi))
            have HO0A := Is.mk (outB_zero (addL (X.take 16) (key.drop 16)))
            have HAL := Is.mk hAl
            have HTE := Is.mk hTE
            have HXL := Is.mk hXl
            have HXI := hidden hXi
            generalize addL (X.take 16) (key.drop 16) = A at *
            clear ht' hcc hkd hadn hTE hAl HZA hXl hXi hXr hXv HI HGW2 hx16 HTV HNC
            have HD0 : Hid (Own wc w.heap.size 5 (.slice none 0 0) (dig 256 0 (num 256 (A.take 0)))) := Own.nil _ _ _
            obtain ⟨bk, ok, rfl, hck⟩ := HX.out.at_ (by omega)
            have HCK := hidden hck
            clear hck
            go_wp2
            rename World => wo2
            go_loopw [12, 14, 15] (fun u v i wr => ∃ j : Nat, j ≤ 16 ∧ i = .int .i64 j ∧ u = .int .u32 (outB A j) ∧ Own wr w.heap.size 5 v (dig 256 j (num 256 (A.take j))) ∧ RsI w wr gr (gr + 1) RL X) (fun _ _ i _ => 16 - (intOf i).toNat)
            case atStart => exact ⟨0, by omega, rfl, by rw [HO0A.eq], HD0.out, HXI.out⟩
            case round =>
              clear HD0 HXI HO0A
              obtain ⟨j, hj, rfl, rfl, ho, hi⟩ := hrel
              have HO := hidden ho
              have HI := hidden hi
              clear ho hi
              by_cases hj16 : j < 16
              · have xk := cell_below HI.out.bel _ _ (HCK.out (16 + j) (by omega))
                have xs := HI.out.h.cell j (by rw [HXL.eq]; omega)
                have hur := HORA.out j hj
                have hxr := HXG.out j (by omega)
                have hkr := HKR.out (16 + j)
                have hos := HOSA.out j hj16
                have hds := HDSA.out j hj16
                rw [HAG.out j hj16] at hos hds
                have HDL := Is.mk (dig_len 256 j (num 256 (A.take j)))
                generalize X.getD j 0 = x at *
                generalize key.getD (16 + j) 0 = y at *
                have HOS2 := Is.mk hos
                have HDS2 := Is.mk hds
                generalize outB A j = u at *
                have wy : IntKind.u32.wrap y = y := by rw [IntKind.wrap_u32']; omega
                have w1' : IntKind.u32.wrap (x + y) = x + y := by rw [IntKind.wrap_u32']; omega
                have w2' : IntKind.u32.wrap (u + (x + y)) = u + (x + y) := by rw [IntKind.wrap_u32']; omega
                have b0 : (j : Int) < 16 := by omega
                have b1 : (0 : Int) ≤ (j : Int) := by omega
                have b2 : (j : Int) < 17 := by omega
                have b3 : (0 : Int) ≤ 16 + (j : Int) := by omega
                have b4 : 16 + (j : Int) < 32 := by omega
                have b5 : (16 + (j : Int)).toNat = 16 + j := by omega
                clear hos hds
                go_upto_region 31 with fail
                go_region
                have HID : Hid (RsI w wr.drew gr (gr + 1) RL X) := HI.out.drew
                have HOD : Hid (Own wr.drew w.heap.size 5 u14 (dig 256 j (num 256 (A.take j)))) := HO.out.drew
                generalize hv : u + (x + y) = v at *
                have hvr : 0 ≤ v ∧ v ≤ 1000 := by omega
                have HOSV : Is (v / 256) (outB A (j + 1)) := ⟨HOS2.eq.symm⟩
                clear hv xk xs HI HO
                generalize World.drew wr = w9 at *
                go_wp2_with (at_builtin; refine wpList_append_byt _ rfl _ _ 22 rfl w.heap.size 5 i0 (.int .u8 0) Tryd.underlying22 hi hz0 hz1 hz2 rfl _ _ rfl (HOD.out.alloc _) _ _ _ _ _ rfl (one_byte _ _ (v % 256) ?c0 ?c1) rfl ?c2 ?c3 ?_)
                case c0 => omega
                case c1 => rw [World.cell?_alloc_at _ _ _ _ rfl]; rfl
                case c2 => rw [HDL.eq]; omega
                case c3 => have := HID.out.bel.size; simp; omega
                intro u' w10 hown hg
                rw [← HDS2.eq] at hown
                have HO2 := hidden hown
                have hrow : ∀ k, u14.ownBlock = some k → w.heap.size ≤ k ∧ ∃ cur, w9.heap[k]? = some (.cells cur 5 (0, 0)) := fun k hk => ⟨(HOD.out.lt k hk).1, HOD.out.typedP k hk⟩
                have hga : w9.grownBy w10 u14.ownBlock := grown_trans (grown_of_below ((Below.refl _ w9).alloc (Nat.le_refl _) _) _) hg
                have HI2 : Hid (RsI w w10 gr (gr + 1) RL X) := hidden ⟨HID.out.r.grown hga (fun e => by
                    obtain ⟨_, cur, hc⟩ := hrow _ e.symm
                    rw [HID.out.r.heap] at hc
                    simp at hc), HID.out.h.grown hga (fun e => by
                    obtain ⟨_, cur, hc⟩ := hrow _ e.symm
                    rw [HID.out.h.heap] at hc
                    simp at hc), HID.out.bel.grown hga HID.out.bel.size (fun k e => (hrow k e).1)⟩
                clear hown hg hrow hga HID HOD
                go_wp2
                go_roundw
                case rel => exact ⟨j + 1, by omega, by go_num, by rw [← HOSV.eq], HO2.out, HI2.out⟩
                case measure => simp [intOf]; omega
              · have hje : j = 16 := by omega
                have hge16 : ¬ (j : Int) < 16 := by omega
                have hoe := HO.out
                rw [hje, List.take_of_length_le (by rw [HAL.eq]; omega), ← HTE.eq] at hoe
                have HOE := hidden hoe
                clear hje hoe HO
                go_wp2
                go_ret2
                exact ⟨_, rfl, HOE.out, HI.out.bel⟩
end Go.Proofs.YtpocehpejbnemaaDoor
