/-
  The law ChachaStreams, walked: it returns true for every input, and only adds memory of its own.
-/
import Derived.Test.YtnnpecfineanlaaDoorChaKey
import Derived.Deep.Cut
import Derived.Deep.CutRange
namespace Go.Proofs.YtnnpecfineanlaaDoor
open Go.RowKit
set_option linter.unusedVariables false
set_option linter.unusedSimpArgs false

set_option maxHeartbeats 3200000 in
set_option maxRecDepth 100000 in
theorem chachaStreams_walk (p0 : Option Addr) (n0 c0 : Nat) (xs0 : List Int) (ctr : Int) (z : Int) (w : World) (h0 : Byt w p0 n0 c0 xs0) (r0 : c0 ≤ 140737488351232) (g1 : 0 ≤ ctr ∧ ctr ≤ 4294967295) (g2 : 0 ≤ z ∧ z ≤ 255) (hQ : QAt w) :
    Calls Tryd.prog 6 #[.slice p0 n0 c0, .int .u32 ctr, .int .u8 z] w fun e w' => e = .returned (.bool true) ∧ Below w.heap.size w w' := by
  obtain ⟨i0, hi0, hz0, hz1, hz2⟩ := info_parts Tryd.infoByte
  obtain ⟨N, rfl⟩ := Int.eq_ofNat_of_zero_le g2.1
  have hN : N ≤ 255 := by omega
  have HA := hidden (awake10_any w)
  have H0 := hidden (fun W (hW : Below w.heap.size w W) => h0.below hW)
  have HQ := hidden (fun W (hW : Below w.heap.size w W) => hQ.below hW hQ.lt)
  clear h0 hQ g2
  go_enter Tryd.func6, Tryd.ntmps6
  go_upto_region 3 with (first
    | (go_at_call 14; (with_reducible refine (HA.out).mono ?_); rintro e w1 ⟨rfl, hb⟩; have HB1 := hidden hb; clear hb)
    | fail)
  have HKEY := hidden (key_any p0 n0 c0 xs0 w1 (H0.out w1 HB1.out))
  go_upto_region 4 with (first
    | (go_at_call 15; (with_reducible refine (HKEY.out).mono ?_); rintro e w2 ⟨kp, kc, ky, np, nc, ny, rfl, hk, hn, hbel⟩; have HK := hidden (fun W (hW : Below w2.heap.size w2 W) => hk.below hW); have HNO := hidden (fun W (hW : Below w2.heap.size w2 W) => hn.below hW); have HB2 := hidden (HB1.out.trans (hbel.mono HB1.out.size)); clear hk hn hbel)
    | fail)
  have HBw := hidden (fun W (hW : Below w2.heap.size w2 W) => HB2.out.trans (hW.mono HB2.out.size))
  have HXO := hidden (fun r n e b W (hW : Below w2.heap.size w2 W) (hy : Byt W r n e b) (hn : n ≤ 1000000) => cxor_to kp np r kc nc n e ky ny b ctr W (HK.out W hW) (HNO.out W hW) hy hn (HQ.out W (HBw.out W hW)) g1.1 (by omega))
  have HBO := hidden (fun (j : Nat) W (hW : Below w2.heap.size w2 W) => cblock_yes kp np kc nc ky ny ((ctr + (j : Int)) % 4294967296) W (HK.out W hW) (HNO.out W hW) (HQ.out W (HBw.out W hW)))
  have HS0 := hidden (Below.refl w2.heap.size w2)
  have HZR : Hid (∀ x ∈ List.replicate N (0 : Int), 0 ≤ x ∧ x ≤ 255) := fun x hx => by
    have := List.eq_of_mem_replicate hx
    omega
  have HZL : Is (List.replicate N (0 : Int)).length N := ⟨List.length_replicate⟩
  obtain ⟨X, hX⟩ : ∃ X, xorC ky ctr ny (List.replicate N 0) = X := ⟨_, rfl⟩
  have HXE := Is.mk hX
  have HSL := hidden (streamC_len ky ctr ny)
  have HSR := hidden (streamC_rng ky ctr ny)
  have HSN : Hid (∀ j, streamC ky ctr ny (j + 1) = streamC ky ctr ny j ++ blockC ky ((ctr + (j : Int)) % 4294967296) ny) := fun j => rfl
  have HSE : Hid (∀ k, N ≤ 64 * k → X = (streamC ky ctr ny k).take N) := fun k hk => by rw [← hX]; exact xorC_zeros _ _ _ _ _ hk
  have HT0 : Is (streamC ky ctr ny 0) [] := ⟨rfl⟩
  generalize streamC ky ctr ny = T at *
  clear hX HA HKEY H0 HB1
  have hBU : Hid (Below w2.heap.size w2 w2) := HS0
  go_upto_region 5 with (first
    | (at_make; refine wpList_make_byt _ rfl _ _ 22 rfl w2.heap.size 5 i0 Tryd.underlying22 hi0 hz0 hz1 hz2 _ _ _ _ N N rfl rfl rfl rfl (Nat.le_refl _) (by omega) (Nat.le_refl _) ?_; intro w3 hown hg3; obtain ⟨mp, mc, em, hmy⟩ := hown.bytN (N := N) rfl HZL.eq HZR.out; cases em; have HB3 := hidden (HS0.out.grown hg3 (Nat.le_refl _) (fun k e => by cases e)); have HCX := hidden (HXO.out _ N _ _ w3 HB3.out hmy (by omega)); rw [HXE.eq] at HCX; clear hown hg3 hmy)
    | (go_at_call 18; go_loud (with_reducible refine (HCX.out).mono ?_); rintro e w4 ⟨sp, sc, rfl, hs, hb4⟩; have HS4 := hidden (fun W (hW : Below w4.heap.size w4 W) => hs.below hW); have HB4 := hidden (HB3.out.trans (hb4.mono HB3.out.size)); clear hs hb4 HCX)
    | fail)
  have HO0 : Hid (Own w4 w4.heap.size 5 (.slice none 0 0) (T 0)) := by
    rw [HT0.eq]
    exact Own.nil _ _ _
  go_wp2
  go_loopw [11, 12] (fun u i wr => ∃ j : Nat, j ≤ 4 ∧ i = .int .i64 j ∧ Own wr w4.heap.size 5 u (T j) ∧ Below w4.heap.size w4 wr) (fun _ i _ => 5 - (intOf i).toNat)
  case atStart => exact ⟨0, by omega, rfl, HO0.out, Below.refl _ _⟩
  case round =>
    obtain ⟨j, hj, rfl, ho, hb⟩ := hrel
    obtain ⟨LL, hLL⟩ : ∃ LL, 64 * j = LL := ⟨_, rfl⟩
    obtain ⟨ap, ac, rfl, hay⟩ := ho.bytN (N := LL) rfl (by rw [HSL.out j, hLL]) (HSR.out j)
    have HO := hidden ho
    have HAY := hidden hay
    have HB := hidden hb
    have hac := hay.cap
    clear ho hay hb HO0
    by_cases hlt : LL < N
    · have hlt' : (LL : Int) < (N : Int) := by omega
      have hw2r := HB4.out.trans (HB.out.mono HB4.out.size)
      have HC := hidden (HBO.out j wr hw2r)
      have q3 : IntKind.u32.wrap (j : Int) = (j : Int) := by rw [IntKind.wrap_u32']; omega
      have hbl := blockC_len ky ((ctr + (j : Int)) % 4294967296) ny
      have hbr := blockC_rng ky ((ctr + (j : Int)) % 4294967296) ny
      have HNX := Is.mk (HSN.out j)
      generalize blockC ky ((ctr + (j : Int)) % 4294967296) ny = R at *
      have HBLN := Is.mk hbl
      have HBRG := hidden hbr
      have hj4 : j < 4 := by omega
      have hroom : (T j).length + 64 ≤ 140737488355328 := by rw [HSL.out j]; omega
      clear hbl hbr hLL hw2r
      go_wp2_with (first
        | (go_at_call 16; go_loud (with_reducible refine (HC.out).mono ?_); rintro e w6 ⟨Bk, rfl, hBk, hwb, hb6⟩; have HO6 := hidden (HO.out.below hb6); have HY6 := hidden (hwb.byt 64 HBLN.eq (by decide) HBRG.out); have HB6 := hidden (HB.out.trans (hb6.mono HB.out.size)); clear hBk hwb hb6)
        | (at_builtin; go_loud (refine wpList_append_byt _ rfl _ _ 22 rfl w4.heap.size 5 i0 (.int .u8 0) Tryd.underlying22 hi0 hz0 hz1 hz2 rfl _ _ rfl HO6.out _ _ _ _ _ rfl HY6.out rfl hroom HB6.out.size ?_))
        | fail)
      intro u7 w7 hown7 hg7
      rw [← HNX.eq] at hown7
      have HO7 := hidden hown7
      have HB7 := hidden (HB6.out.grown hg7 HB6.out.size (fun k e => (HO6.out.lt k e).1))
      clear hown7 hg7 HO6 HY6 HB6 HO HB HC HAY
      go_wp2
      go_roundw
      case rel => exact ⟨j + 1, by omega, by go_num, HO7.out, HB7.out⟩
      case measure => simp [intOf]; omega
    · have hlt' : ¬ (LL : Int) < (N : Int) := by omega
      have hNL : (N : Int) ≤ (LL : Int) := by omega
      have hNc : (N : Int) ≤ (ac : Int) := by omega
      have hF := HAY.out.front N (by omega)
      rw [← HSE.out j (by omega)] at hF
      have HE := hidden (requal_any sp ap N sc N ac X X wr (HS4.out wr HB.out) hF)
      simp only [decide_true] at HE
      have HBF := hidden ((HB2.out.trans (HB4.out.mono HB2.out.size)).trans (HB.out.mono (Nat.le_trans HB2.out.size HB4.out.size)))
      clear hF hLL HO HAY
      go_wp2_with (first
        | (go_at_call 20; go_loud (with_reducible refine (HE.out).mono ?_); rintro e w10 ⟨rfl, r3, rfl⟩)
        | fail)
      go_ret
      exact ⟨rfl, HBF.out.trans (drew_below ⟨r3, rfl⟩)⟩
end Go.Proofs.YtnnpecfineanlaaDoor
