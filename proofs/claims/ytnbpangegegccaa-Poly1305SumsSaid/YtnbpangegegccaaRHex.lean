/-
  What the document's own Hex returns, for every slice of bytes.
-/
import Derived.Test.YtnbpangegegccaaText
import Derived.Test.YtnbpangegegccaaClone
import Derived.Test.YtnbpangegegccaaWEqual
import Derived.Deep.RegionHeld3
namespace Go.Proofs.Ytnbpangegegccaa
open Go.RowKit
set_option linter.unusedVariables false

set_option maxHeartbeats 800000 in
theorem rhex_any (p : Option Addr) (n c : Nat) (xs : List Int) (w : World) (h : Byt w p n c xs) (hb : n ≤ 70368744177664) :
    Calls Try.prog 14 #[.slice p n c] w fun e w' => e = .returned (.string (strOfNums (hx xs))) ∧ Below w.heap.size w w' := by
  have HN := hidden h.len
  have hle := h.le
  have HC := hidden (fun j (hj : j < n) => (show ∃ b o, p = some ⟨b, o, none⟩ ∧ w.cell? ⟨b, o + j, none⟩ = some (.int .u8 (xs.getD j 0)) by
    obtain ⟨b, o, e, hc⟩ := h.at_ (by omega)
    exact ⟨b, o, e, hc j hj⟩))
  have HR := hidden h.rng
  clear h
  obtain ⟨i0, hi, hz0, hz1, hz2⟩ := info_parts Try.infoByte
  go_enter Try.func14, Try.ntmps14
  have hown := Own.nil w w.heap.size 5
  have hbel := Below.refl w.heap.size w
  go_wp2
  go_loopw [3, 4] (fun u i wr => ∃ j : Nat, j ≤ n ∧ i = .int .i64 j ∧ Own wr w.heap.size 5 u (hx (xs.take j)) ∧ Below w.heap.size w wr) (fun _ i _ => n - (intOf i).toNat)
  case atStart => exact ⟨0, by omega, rfl, hown, hbel⟩
  case round =>
    obtain ⟨j, hj, rfl, ho, hbl⟩ := hrel
    by_cases hlt : j < n
    · obtain ⟨b, o, rfl, hc⟩ := HC.out j hlt
      have hcell := (cell_below hbl _ _ hc)
      have hr := rng_getD HR.out j
      have hbw := World.block_lt_of_cell? w _ hc
      have hbn : some b ≠ u3.ownBlock := fun e => by
        have := (ho.lt b e.symm).1
        exact absurd hbw (Nat.not_lt.2 this)
      have HS := hidden (hx_step xs j (by rw [HN.out]; exact hlt))
      have HL := hidden (hx_len (xs.take j))
      have HT := hidden (List.length_take_le j xs)
      obtain ⟨x, hxe⟩ : ∃ x, xs.getD j 0 = x := ⟨_, rfl⟩
      rw [hxe] at hr HS hcell
      clear hxe
      have h15 := u8_and15 x hr.1 (by omega)
      have hA := row_hd (x / 16) (by omega) (by omega) (show (x / 16).toNat < 16 by omega)
      have hB := row_hd (x % 16) (by omega) (by omega) (show (x % 16).toNat < 16 by omega)
      have r0 := hd_bd (x / 16) (by omega) (by omega)
      have r1 := hd_bd (x % 16) (by omega) (by omega)
      have d0 : 0 ≤ x / 16 ∧ x / 16 < 16 := by omega
      have d1 : 0 ≤ x % 16 ∧ x % 16 < 16 := by omega
      have HO := hidden ho
      have HB := hidden hbl
      clear ho hbl hown hbel hc
      go_wp2
      go_region_held3 (fun w' => w'.cell? ⟨b, o + j, none⟩ = some (.int .u8 x)) (first | exact hcell | go_keep | exact World.grownBy.cell hg2 (by go_simp) hbn)
        ((refine step_append_byt _ (by rfl) _ _ 22 (by rfl) w.heap.size 5 i0 (.int .u8 0) Try.underlying22 hi hz0 hz1 hz2 rfl _ _ (by rfl) ((HO.out.alloc _).drew) _ _ _ _ [hd (x / 16), hd (x % 16)] (by rfl) (two_byt r0 r1 (by go_simp) (by go_simp)) (by rfl) (by rw [HL.out]; have := HT.out; omega) (by have := HB.out.size; simp; omega) ?_; intro u' w2 hown2 hg2))
      all_goals
        have HB3 := hidden ((HB.out.alloc HB.out.size _).drew.grown hg2 (by have := HB.out.size; simp; omega) (fun g hg => (HO.out.lt g hg).1))
        have HO3 := hidden (show Own w2 w.heap.size 5 u' (hx (xs.take (j + 1))) by rw [HS.out]; exact hown2)
        clear hg2 hown2 h15 hA hB r0 r1 d0 d1 hbn hbw
        go_wp2
        go_roundw
        case rel => exact ⟨j + 1, by omega, by go_num, HO3.out, HB3.out⟩
        case measure => simp [intOf]; omega
    · obtain rfl : j = n := by omega
      have ht : xs.take j = xs := List.take_of_length_le (by rw [HN.out]; exact Nat.le_refl _)
      rw [ht] at ho
      obtain ⟨p', f', rfl, hy⟩ := ho.bytN rfl (show (hx xs).length = 2 * j by rw [hx_len, HN.out]) (hx_rng HR.out)
      have hcv := conv_byt (P := Try.prog) hy 22 5 9 Try.underlying22 Try.underlying5 Try.underlying9
      have HB := hidden hbl
      clear ho hbl hown hbel hy HC ht
      go_wp2
      go_ret
      exact ⟨rfl, HB.out⟩
end Go.Proofs.Ytnbpangegegccaa
