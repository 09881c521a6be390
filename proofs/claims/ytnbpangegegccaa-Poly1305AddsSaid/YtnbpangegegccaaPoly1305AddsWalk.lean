/-
  The law Poly1305Adds, walked: it returns true for every input, and only adds memory of its own.
-/
import Derived.Test.YtnbpangegegccaaPoly11
import Derived.Test.YtnbpangegegccaaPolyAdd
import Derived.Test.YtnbpangegegccaaMkBytes
import Derived.Test.YtnbpangegegccaaCodes2
import Derived.Test.YtnbpangegegccaaZeros
import Derived.Deep.Cut
import Derived.Deep.CutRange
namespace Go.Proofs.Ytnbpangegegccaa
open Go.RowKit
set_option linter.unusedVariables false

/-- What the changing of the other key's first half keeps. -/
structure ChgI (w3 wr : World) (g c gi : Nat) (key Z L : List Int) : Prop where
  own : Own wr w3.heap.size 5 (.slice (some ⟨g, 0, none⟩) 32 c) Z
  like : LikeK key Z
  idx : Wn .i64 wr gi 3 L
  bel : Below w3.heap.size w3 wr
theorem ChgI.set {w3 wr : World} {g c gi : Nat} {key Z L : List Int} (h : ChgI w3 wr g c gi key Z L) (i : Nat) (x : Int) (hi : i < 16) (hx : 0 ≤ x ∧ x ≤ 255) (he : clampI i x = clampI i (Z.getD i 0)) (hg : g ≠ gi) (hg3 : w3.heap.size ≤ g) :
    ChgI w3 (wr.setCell ⟨g, i, none⟩ (.int .u8 x)) g c gi key (Z.set i x) L :=
  ⟨h.own.set h.like.len i x, h.like.set i x hi hx he, h.idx.other _ _ (by simp; omega), h.bel.setCell hg3 _⟩
theorem ChgI.cell {w3 wr : World} {g c gi : Nat} {key Z L : List Int} (h : ChgI w3 wr g c gi key Z L) : (∀ j, j < 32 → wr.cell? ⟨g, j, none⟩ = some (.int .u8 (Z.getD j 0))) ∧ ∀ j, wr.frozen? ⟨g, j, none⟩ = false := by
  obtain ⟨g', c', e, -, -, hc, hf⟩ := h.own.at_ h.like.len (by omega)
  cases e
  exact ⟨hc, hf⟩
theorem at37 : ∀ j : Fin 4, ([3, 7, 11, 15] : List Int).getD j.val 0 = ((3 + 4 * j.val : Nat) : Int) := by decide
theorem at48 : ∀ j : Fin 3, ([4, 8, 12] : List Int).getD j.val 0 = ((4 + 4 * j.val : Nat) : Int) := by decide

set_option maxHeartbeats 3200000 in
set_option maxRecDepth 100000 in
theorem poly1305Adds_walk (p0 : Option Addr) (n0 c0 : Nat) (xs0 : List Int) (p1 : Option Addr) (n1 c1 : Nat) (xs1 : List Int) (z : Int) (w : World) (h0 : Byt w p0 n0 c0 xs0) (r0 : c0 ≤ 140737488351232) (h1 : Byt w p1 n1 c1 xs1) (r1 : c1 ≤ 140737488351232) (g2 : 0 ≤ z ∧ z ≤ 255) :
    Calls Try.prog 6 #[.slice p0 n0 c0, .slice p1 n1 c1, .int .u8 z] w fun e w' => e = .returned (.bool true) ∧ Below w.heap.size w w' := by
  have HA := hidden (awake11_any w)
  have H0 := hidden h0
  have H1 := hidden h1
  have hc1 := h1.cap
  have hbig := h1.big
  obtain ⟨i0, hi, hz0, hz1, hz2⟩ := info_parts Try.infoByte
  clear h0 h1
  go_enter Try.func6, Try.ntmps6
  go_upto_if 23 with (first
    | (go_at_call 7; (with_reducible refine (HA.out).mono ?_); rintro e w1 ⟨rfl, hb⟩; have HB1 := hidden hb; clear hb)
    | fail)
  go_cut [1] from 21 to 25 (fun a wx => ∃ q k d b, a = .slice q k d ∧ k ≤ 200 ∧ Hid (Byt w q k d b) ∧ w1 = wx)
  case first =>
    by_cases hlt : n1 ≤ 200
    · have hle : ¬ (200 : Int) < (n1 : Int) := by omega
      go_wp2
      go_meet
      case rel => exact ⟨p1, n1, c1, xs1, rfl, hlt, H1, rfl⟩
    · have hle : (200 : Int) < (n1 : Int) := by omega
      have hl2 : (200 : Int) ≤ (c1 : Int) := by omega
      have HF := hidden (H1.out.front 200 (by omega))
      go_wp2
      go_meet
      case rel => exact ⟨p1, 200, c1, _, rfl, by omega, HF, rfl⟩
  case rest =>
    obtain ⟨pb, nb, cb, b, rfl, hnb, HBB, rfl⟩ := hcut
    have HB0 := hidden (fun W (hW : Below w.heap.size w W) => HBB.out.below hW)
    clear HBB H1
    go_wp2_with (first
      | (go_at_call 8; (refine (new_any w p0 n0 c0 xs0 w1 H0.out HB1.out 60 (by omega)).mono ?_); rintro e w2 ⟨rfl, hc, hb⟩; have HC2 := hidden hc; have HB2 := hidden (HB1.out.trans (hb.mono HB1.out.size)); clear hc hb)
      | (go_at_call 9; (refine (mbytes_any w w2 _ HC2.out 32 (by omega)).mono ?_); rintro e w3 ⟨q, d, key, rfl, hbod, hc, hg⟩; have HY3 := hidden hbod.byt; have HB3 := hidden (HB2.out.grown hg HB2.out.size (fun k e => by cases e; exact HC2.out.base)); have hkc := hbod.byt.cap; clear hc hg hbod)
      | (at_builtin; refine wpList_append_byt _ rfl (.const (.slice none 0 0)) (.tmp 30) 22 rfl w3.heap.size 5 i0 (.int .u8 0) Try.underlying22 hi hz0 hz1 hz2 rfl _ _ rfl (Own.nil _ w3.heap.size 5) _ _ _ _ _ rfl (HY3.out.front 16 (by omega)) rfl ?b1 (Nat.le_refl _) ?_)
      | fail)
    case b1 => simp
    intro u w4 hown hg
    have HB34 := hidden ((Below.refl w3.heap.size w3).grown hg (Nat.le_refl _) (nob _))
    have HKL := Is.mk HY3.out.len
    obtain ⟨g4, c4, rfl, -, -, -, -⟩ := hown.at_ (n := 16) (by simp [HKL.eq]) (by omega)
    have HO4 := hidden (show Own w4 w3.heap.size 5 _ (key.take 16) from hown)
    clear hown hg
    go_wp2_with (first
      | (at_builtin; go_loud (refine wpList_append_zeros _ rfl _ _ 22 3 rfl w3.heap.size 5 i0 Try.underlying22 Try.underlying3 hi hz0 hz1 hz2 g4 16 c4 (key.take 16) rfl HO4.out (by simp [HKL.eq]) 16 16 rfl rfl (by omega) (by omega) HB34.out.size ?_))
      | fail)
    intro u w5 hown hg
    have HB35 := hidden (HB34.out.grown hg HB34.out.size (fun k hk => by cases hk; exact (HO4.out.lt g4 rfl).1))
    obtain ⟨g, c5, rfl, hg0, hg1, -, -⟩ := hown.at_ (n := 32) (by simp [HKL.eq]) (by omega)
    have HO5 : Hid (Own w5 w3.heap.size 5 (.slice (some ⟨g, 0, none⟩) 32 c5) (key.take 16 ++ List.replicate 16 0)) := hidden hown
    have HLK := hidden (LikeK.start key HKL.eq HY3.out.rng)
    have HRK := hidden (fun l (h : LikeK key l) => h.len)
    clear hown hg HO4 HB34 HC2
    generalize key.take 16 ++ List.replicate 16 0 = Z at *
    go_wp2
    obtain ⟨gi, hgi⟩ : ∃ gi, w5.heap.size = gi := ⟨_, rfl⟩
    have HI0 : Hid (ChgI w3 (w5.alloc (.cells #[.int .i64 3, .int .i64 7, .int .i64 11, .int .i64 15] 3)) g c5 gi key Z [3, 7, 11, 15]) :=
      hidden ⟨HO5.out.alloc _, HLK.out, Wn.new' .i64 w5 3 [3, 7, 11, 15] _ rfl gi hgi, HB35.out.alloc HB35.out.size _⟩
    have hggi : g ≠ gi := by omega
    have HGI := hidden hgi
    simp only [hgi]
    clear hgi HO5 HB35 HLK HRK
    go_loopw [35] (fun i wr => ∃ (j : Nat) (Z : List Int), j ≤ 4 ∧ i = .int .i64 j ∧ ChgI w3 wr g c5 gi key Z [3, 7, 11, 15]) (fun i _ => 4 - (intOf i).toNat)
    case atStart => exact ⟨0, Z, by omega, rfl, HI0.out⟩
    case round =>
      obtain ⟨j, Z, hj, rfl, hi⟩ := hrel
      have HI := hidden hi
      clear hi HI0
      by_cases hlt : j < 4
      · have hix := HI.out.idx.cell j (by simp; omega)
        rw [at37 ⟨j, hlt⟩] at hix
        obtain ⟨hc, hf⟩ := HI.out.cell
        have hcx := hc (3 + 4 * j) (by omega)
        have hfx := hf (3 + 4 * j)
        have hxr := rng_getD HI.out.like.rng (3 + 4 * j)
        have hxe := xor240 (Z.getD (3 + 4 * j) 0) z hxr g2 (3 + 4 * j) (by omega)
        have HN := hidden (HI.out.set (3 + 4 * j) (bits .xor .u8 (Z.getD (3 + 4 * j) 0) (bits .and .u8 z 240)) (by omega) (xor_rng8 _ _) hxe hggi hg0)
        generalize Z.getD (3 + 4 * j) 0 = x at *
        obtain ⟨m, hm⟩ : ∃ m, bits .and .u8 z 240 = m := ⟨_, rfl⟩
        rw [hm] at HN
        obtain ⟨k, hk⟩ : ∃ k, 3 + 4 * j = k := ⟨_, rfl⟩
        have hk32 : (k : Int) < 32 := by omega
        have hk0 : (0 : Int) ≤ (k : Int) := by omega
        have hj4 : (j : Int) < 4 := by omega
        simp only [hk] at hix hcx hfx HN
        clear hc hf hxr hxe hk
        go_wp2
        go_roundw
        case rel => exact ⟨j + 1, _, by omega, by go_num, HN.out⟩
        case measure => simp [intOf]; omega
      · have hge : ¬ (j : Int) < 4 := by omega
        clear hlt
        go_wp2
        obtain ⟨gj, hgj⟩ : ∃ gj, wr.heap.size = gj := ⟨_, rfl⟩
        have HJ0 : Hid (ChgI w3 (wr.alloc (.cells #[.int .i64 4, .int .i64 8, .int .i64 12] 3)) g c5 gj key Z [4, 8, 12]) :=
          hidden ⟨HI.out.own.alloc _, HI.out.like, Wn.new' .i64 wr 3 [4, 8, 12] _ rfl gj hgj, HI.out.bel.alloc HI.out.bel.size _⟩
        have hggj : g ≠ gj := by have := (HI.out.own.lt g rfl).2; omega
        have HGJ := hidden hgj
        simp only [hgj]
        clear hgj HI
        go_loopw [50] (fun i wr => ∃ (j : Nat) (Z : List Int), j ≤ 3 ∧ i = .int .i64 j ∧ ChgI w3 wr g c5 gj key Z [4, 8, 12]) (fun i _ => 3 - (intOf i).toNat)
        case atStart => exact ⟨0, Z, by omega, rfl, HJ0.out⟩
        case round =>
          clear HJ0
          obtain ⟨j, Z, hj, rfl, hi⟩ := hrel
          have HI := hidden hi
          clear hi
          by_cases hlt : j < 3
          · have hix := HI.out.idx.cell j (by simp; omega)
            rw [at48 ⟨j, hlt⟩] at hix
            obtain ⟨hc, hf⟩ := HI.out.cell
            have hcx := hc (4 + 4 * j) (by omega)
            have hfx := hf (4 + 4 * j)
            have hxr := rng_getD HI.out.like.rng (4 + 4 * j)
            have hxe := xor3 (Z.getD (4 + 4 * j) 0) z hxr g2 (4 + 4 * j) (by omega)
            have HN := hidden (HI.out.set (4 + 4 * j) (bits .xor .u8 (Z.getD (4 + 4 * j) 0) (bits .and .u8 z 3)) (by omega) (xor_rng8 _ _) hxe hggj hg0)
            generalize Z.getD (4 + 4 * j) 0 = x at *
            obtain ⟨m, hm⟩ : ∃ m, bits .and .u8 z 3 = m := ⟨_, rfl⟩
            rw [hm] at HN
            obtain ⟨k, hk⟩ : ∃ k, 4 + 4 * j = k := ⟨_, rfl⟩
            have hk32 : (k : Int) < 32 := by omega
            have hk0 : (0 : Int) ≤ (k : Int) := by omega
            have hj4 : (j : Int) < 3 := by omega
            simp only [hk] at hix hcx hfx HN
            clear hc hf hxr hxe hk
            go_wp2
            go_roundw
            case rel => exact ⟨j + 1, _, by omega, by go_num, HN.out⟩
            case measure => simp [intOf]; omega
          · have hge3 : ¬ (j : Int) < 3 := by omega
            clear hlt
            obtain ⟨pz, cz, ez, hzb⟩ := HI.out.own.bytN (N := 32) rfl HI.out.like.len HI.out.like.rng
            cases ez
            have hb3 := HB3.out.trans (HI.out.bel.mono HB3.out.size)
            have hbw := HB0.out wr hb3
            have hbl := hbw.len
            have HPK := hidden (psum_yes q pb d nb cb key b wr (HY3.out.below HI.out.bel) hbw (by omega))
            have HPZ := hidden (fun W (hW : Below wr.heap.size wr W) => psum_yes _ pb _ nb cb Z b W (hzb.below hW) (hbw.below hW) (by omega))
            have HSP := Is.mk (tag_split key Z b HI.out.like.cl HI.out.like.zr)
            have hLT := tagS_len key b
            have hRT := tagS_rng key b
            have hLZ := tagS_len Z b
            have hRZ := tagS_rng Z b
            have HKD := hidden (fun W (hW : Below wr.heap.size wr W) => (HY3.out.below HI.out.bel).below hW)
            have HB9 := hidden hb3
            have hKR := HY3.out.rng
            generalize tagS key b = T at *
            generalize tagS Z b = U at *
            have HADD := Is.mk (addL_num 256 U (key.drop 16) (by rw [hLZ, List.length_drop, HKL.eq]))
            have HZL := Is.mk (show (addL U (key.drop 16)).length = 16 by rw [addL_len, hLZ, List.length_drop, HKL.eq]; rfl)
            have HZG := hidden (fun i (hi : i < 16) => (show (addL U (key.drop 16)).getD i 0 = U.getD i 0 + key.getD (16 + i) 0 by rw [addL_get _ _ _ (by omega) (by rw [List.length_drop, HKL.eq]; omega)]; congr 1; rw [List.getD_eq_getElem?_getD, List.getD_eq_getElem?_getD, List.getElem?_drop]))
            have HUR := hidden (fun i => rng_getD hRZ i)
            have HKR := hidden (fun i => rng_getD hKR i)
            rw [← HADD.eq] at HSP
            have HZR : Hid (∀ i, 0 ≤ (addL U (key.drop 16)).getD i 0 ∧ (addL U (key.drop 16)).getD i 0 ≤ 510) := fun i => by
              by_cases hi : i < 16
              · rw [HZG.out i hi]
                have := HUR.out i
                have := HKR.out (16 + i)
                omega
              · rw [List.getD_eq_getElem?_getD, List.getElem?_eq_none (by rw [HZL.eq]; omega)]; simp
            have HTD : Hid (∀ i, i < 16 → T.getD i 0 = (outB (addL U (key.drop 16)) i + (addL U (key.drop 16)).getD i 0) % 256) := fun i hi => by
              rw [HSP.eq]
              exact outB_dig _ 16 i (by rw [HZL.eq]; exact hi) hi
            have HOS := hidden (fun i (hi : i < 16) => outB_succ (addL U (key.drop 16)) i (by rw [HZL.eq]; exact hi))
            have HOR := hidden (fun i (hi : i ≤ 16) => outB_rng (addL U (key.drop 16)) HZR.out i (by rw [HZL.eq]; exact hi))
            have HO0 := Is.mk (outB_zero (addL U (key.drop 16)))
            have HLT := Is.mk hLT
            have HRT := hidden hRT
            have HLZ := Is.mk hLZ
            have HRZ := hidden hRZ
            generalize addL U (key.drop 16) = A at *
            clear HI hzb hb3 hbw hbl HSP HADD hLT hRT hLZ hRZ hKR HZR HY3 HB0 HB3
            go_upto_region 19 with (first
              | (go_at_call 10; (with_reducible refine (HPK.out).mono ?_); rintro e w6 ⟨v6, rfl, ho, hb⟩; have HB6 := hidden hb; obtain ⟨q6, d6, rfl, hbyt⟩ := ho.bytN (N := 16) rfl HLT.eq HRT.out; have HT6 := hidden hbyt; clear ho hb hbyt)
              | (go_at_call 10; (with_reducible refine (HPZ.out w6 HB6.out).mono ?_); rintro e w7 ⟨v7, rfl, ho, hb⟩; have HT7 := hidden (HT6.out.below hb); have HB7 := hidden (HB6.out.trans (hb.mono HB6.out.size)); obtain ⟨q7, d7, rfl, hbyt⟩ := ho.bytN (N := 16) rfl HLZ.eq HRZ.out; have HU7 := hidden hbyt; clear ho hb hbyt)
              | fail)
            have HK7 := hidden (HKD.out w7 HB7.out)
            have HW7 := hidden (HB9.out.trans (HB7.out.mono HB9.out.size))
            clear HPK HPZ HKD HB9 HB7 HT6 HB6
            obtain ⟨b6, o6, rfl, hc6⟩ := HT7.out.at_ (by omega)
            obtain ⟨b7, o7, rfl, hc7⟩ := HU7.out.at_ (by omega)
            obtain ⟨bk, ok, rfl, hck⟩ := HK7.out.at_ (by omega)
            have HC6 := hidden hc6
            have HC7 := hidden hc7
            have HCK := hidden hck
            have hd6 := HT7.out.cap
            have hd7 := HU7.out.cap
            clear hc6 hc7 hck
            have HB70 := hidden (Below.refl w7.heap.size w7)
            go_wp2
            go_loopw [17, 18] (fun c i wr => ∃ j : Nat, j ≤ 16 ∧ i = .int .i64 j ∧ c = .int .i64 (outB A j) ∧ Below w7.heap.size w7 wr) (fun _ i _ => 16 - (intOf i).toNat)
            case atStart => exact ⟨0, by omega, rfl, by rw [HO0.eq], HB70.out⟩
            case round =>
              obtain ⟨j, hj, rfl, rfl, hb⟩ := hrel
              have HB := hidden hb
              clear HB70
              by_cases hlt : j < 16
              · have x6 := cell_below hb _ _ (HC6.out j hlt)
                have x7 := cell_below hb _ _ (HC7.out j hlt)
                have xk := cell_below hb _ _ (HCK.out (16 + j) (by omega))
                have htd := HTD.out j hlt
                have hos := HOS.out j hlt
                have hor := HOR.out j hj
                have hur := HUR.out j
                have hkr := HKR.out (16 + j)
                rw [HZG.out j hlt] at htd hos
                generalize T.getD j 0 = t at *
                generalize U.getD j 0 = u at *
                generalize key.getD (16 + j) 0 = k at *
                have HOS2 := Is.mk hos
                generalize outB A j = c at *
                have b0 : (j : Int) < 16 := by omega
                have b1 : (0 : Int) ≤ (j : Int) := by omega
                have b2 : (0 : Int) ≤ 16 + (j : Int) := by omega
                have b3 : 16 + (j : Int) < 32 := by omega
                have b4 : (16 + (j : Int)).toNat = 16 + j := by omega
                have htd2 : (c + (u + k)) % 256 = t := htd.symm
                clear hb hos htd
                go_upto_region 25 with fail
                go_region
                have HBD : Hid (Below w7.heap.size w7 wr.drew) := HB.out.drew
                generalize hcc : c + (u + k) = v at *
                have hne : (v % 256 != t) = false := by simp [htd2]
                have HOSV : Is (v / 256) (outB A (j + 1)) := ⟨HOS2.eq.symm⟩
                clear htd2 hcc
                go_wp2
                go_roundw
                case rel => exact ⟨j + 1, by omega, by go_num, by rw [← HOSV.eq], HBD.out⟩
                case measure => simp [intOf]; omega
              · have hge16 : ¬ (j : Int) < 16 := by omega
                go_wp2
                go_ret
                exact ⟨rfl, HW7.out.trans (HB.out.mono HW7.out.size)⟩
end Go.Proofs.Ytnbpangegegccaa
