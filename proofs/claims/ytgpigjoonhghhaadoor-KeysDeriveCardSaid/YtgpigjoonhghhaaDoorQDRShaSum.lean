/-
  The document's Sum: the hash of any bytes.
-/
import Derived.Test.YtgpigjoonhghhaaDoorQDRShaBlk
import Derived.Test.YtgpigjoonhghhaaDoorQDZ2
import Derived.Deep.RegionWith
import Derived.Deep.CutBlock
namespace Go.Proofs.YtgpigjoonhghhaaDoor
open Go.RowKit
set_option linter.unusedVariables false
set_option maxHeartbeats 3200000 in
set_option maxRecDepth 100000 in
theorem rsum_any (p : Option Addr) (m c : Nat) (ys : List Int) (w : World) (hY0 : Byt w p m c ys) (hm : m ≤ 1000000) :
    Calls Tryd.prog 54 #[.slice p m c] w fun e w' => ∃ v, e = .returned v ∧ Own w' w.heap.size 5 v (shaS ys) ∧ Below w.heap.size w w' := by
  obtain ⟨i0, hi, hz0, hz1, hz2⟩ := info_parts Tryd.infoByte
  have hyl := hY0.len
  obtain ⟨L, hL⟩ : ∃ L, (padS m).length = L := ⟨_, rfl⟩
  have h9 : 9 ≤ L := by rw [← hL, padS_len]; omega
  have h72 : L ≤ 72 := by rw [← hL, padS_len]; have := padZ_lt m; omega
  have hdiv := padS_div m
  rw [hL] at hdiv
  obtain ⟨X, hX⟩ : ∃ X, ys ++ padS m = X := ⟨_, rfl⟩
  have hXl : X.length = m + L := by rw [← hX, List.length_append, hL, hyl]
  have hXr : ∀ x ∈ X, 0 ≤ x ∧ x ≤ 255 := by rw [← hX]; exact rng_append hY0.rng (padS_rng m)
  obtain ⟨D, hD⟩ : ∃ D, shaS ys = D := ⟨_, rfl⟩
  have hDX : D = bytes8 (blocksS ((m + L) / 64) initS X).list := by rw [← hD, ← hX, ← hXl, ← hX]; unfold shaS; rw [hyl]
  have HDL : Is D.length 32 := ⟨by rw [← hD]; exact shaS_len ys⟩
  have HDR : Hid (∀ x ∈ D, 0 ≤ x ∧ x ≤ 255) := by rw [← hD]; exact shaS_rng ys
  rw [hD]
  have HPAD := hidden (fun W => rpad_any m (by omega) W)
  have HPL := Is.mk hL
  have HPR := hidden (padS_rng m)
  have HXL := Is.mk hXl
  have HXR := hidden hXr
  have HXE := Is.mk hX
  have HDX := Is.mk hDX
  have HDIV := hidden hdiv
  have HY := hidden hY0
  have HYL := Is.mk hyl
  have hmc := hY0.cap
  clear hY0 hyl hL hdiv hX hXl hXr hD hDX
  go_enter Tryd.func54, Tryd.ntmps54
  go_wp2_with (first
    | (at_builtin; refine wpList_append_byt _ rfl (.const (.slice none 0 0)) (.tmp 8) 22 rfl w.heap.size 5 i0 (.int .u8 0) Tryd.underlying22 hi hz0 hz1 hz2 rfl _ _ rfl (Own.nil _ w.heap.size 5) _ _ _ _ _ rfl HY.out rfl ?b1 (Nat.le_refl _) ?_; case b1 => (simp; omega))
    | fail)
  intro u w2 hown hg
  have HB2 := hidden ((Below.refl w.heap.size w).grown hg (Nat.le_refl _) (nob _))
  have HO2 := hidden hown
  clear hown hg
  go_wp2_with (first
    | (go_at_call 62; (with_reducible refine (HPAD.out _).mono ?_); rintro e w3 ⟨v, rfl, hown, hbel⟩; obtain ⟨q, d, rfl, hbyt⟩ := hown.bytN rfl HPL.eq HPR.out; have HB3 := hidden (HB2.out.trans (hbel.mono HB2.out.size)); have HO3 := hidden (HO2.out.below hbel); have HP3 := hidden hbyt; clear hown hbel hbyt)
    | (at_builtin; refine wpList_append_byt _ rfl (.tmp 9) (.tmp 12) 22 rfl w.heap.size 5 i0 (.int .u8 0) Tryd.underlying22 hi hz0 hz1 hz2 rfl _ _ rfl HO3.out _ _ _ _ _ rfl HP3.out rfl ?b2 HB3.out.size ?_; case b2 => (rw [HYL.eq]; omega))
    | fail)
  intro v w4 hown hg
  rw [HXE.eq] at hown
  obtain ⟨r, e, rfl, hbyt⟩ := hown.bytN rfl HXL.eq HXR.out
  obtain ⟨b, o, rfl, _⟩ := hbyt.at_ (by omega)
  have hce := hbyt.cap
  have hem := hbyt.big
  unfold maxLen at hem
  have HB4 := hidden (HB3.out.grown hg HB3.out.size (fun k hk => (HO3.out.lt k hk).1))
  have HX4 := hidden hbyt
  obtain ⟨N, hN⟩ : ∃ N, m + L = N := ⟨_, rfl⟩
  rw [hN] at HDX HX4 hce ⊢
  clear hg hown hbyt
  go_upto_region 3 with fail
  obtain ⟨g, hg⟩ : ∃ g, w4.heap.size = g := ⟨_, rfl⟩
  obtain ⟨s0, hs0⟩ : ∃ s0, initS = s0 := ⟨_, rfl⟩
  generalize hw5 : w4.alloc (.cells _ 81) = w5
  have hs5 : Wd w5 g 81 s0.list := by
    rw [← hw5, ← hs0, ← hg]
    exact Wd.new w4 _ initS.list _ rfl
  have hb5 : Below g w4 w5 := by
    rw [← hw5, ← hg]
    exact (Below.refl _ w4).alloc (Nat.le_refl _) _
  clear hw5
  have HS5 := hidden hs5
  have HB5 := hidden hb5
  have HG := hidden hg
  have HX5 := hidden (fun W (hb : Below g w4 W) => HX4.out.below (by rw [HG.out]; exact hb))
  obtain ⟨E, hE⟩ : ∃ E, blocksS (N / 64) s0 X = E := ⟨_, rfl⟩
  have HE : Is (blocksS (N / 64 - 0) s0 (X.drop 0)) E := ⟨hE⟩
  have HDE : Is D (bytes8 E.list) := ⟨by rw [HDX.eq, hs0, hE]⟩
  have HKN := hidden (show 64 * (N / 64) = N by have := HDIV.out; omega)
  have HEO : Hid E.ok := by
    rw [← hE]
    refine blocksS_ok _ _ _ ?_
    rw [← hs0]
    exact initS_ok
  have hNb : N ≤ 1000072 := by omega
  clear hs5 hb5 hE hs0 hN HDX
  rw [hg]
  clear hg
  go_wp2
  go_loopw [5] (fun i wr => ∃ (j a : Nat) (T : H8), Is a (64 * j) ∧ i = .int .i64 a ∧ a ≤ N ∧ Wd wr g 81 T.list ∧ Is (blocksS (N / 64 - j) T (X.drop a)) E ∧ Below g w4 wr) (fun i _ => N - (intOf i).toNat)
  case atStart => exact ⟨0, 0, s0, ⟨rfl⟩, rfl, by omega, HS5.out, HE, HB5.out⟩
  case round =>
    obtain ⟨j, a, T, HJ, rfl, haN, hs, HT, hb⟩ := hrel
    have hja := HJ.eq
    have hkn := HKN.out
    have HS := hidden hs
    have HB := hidden hb
    by_cases hlt : a < N
    · have ha64 : a + 64 ≤ N := by omega
      have hX := HX5.out wr hb
      have hP := hX.part a (a + 64) (by omega) ha64
      have hea : ¬ e = a := by omega
      have eP : Option.map (fun x : Addr => x.add a) (some ⟨b, o, none⟩) = some ⟨b, o + a, none⟩ := by simp [Addr.add]
      rw [if_neg hea, eP, show a + 64 - a = 64 by omega, List.drop_take, show a + 64 - a = 64 by omega] at hP
      obtain ⟨Z, hZ⟩ : ∃ Z, (X.drop a).take 64 = Z := ⟨_, rfl⟩
      rw [hZ] at hP
      have hHT := HT.eq
      rw [show N / 64 - j = (N / 64 - (j + 1)) + 1 by omega, blocksS, hZ, List.drop_drop] at hHT
      have HHT := Is.mk hHT
      have HBK : Hid (Calls Tryd.prog 63 #[(.agg #[.int .u32 T.a, .int .u32 T.b, .int .u32 T.c, .int .u32 T.d, .int .u32 T.e, .int .u32 T.f, .int .u32 T.g, .int .u32 T.h]), .slice (some ⟨b, o + a, none⟩) 64 (e - a)] wr.drew fun e w' => e = .returned (.tuple #[(.agg #[.int .u32 (blockS T Z).a, .int .u32 (blockS T Z).b, .int .u32 (blockS T Z).c, .int .u32 (blockS T Z).d, .int .u32 (blockS T Z).e, .int .u32 (blockS T Z).f, .int .u32 (blockS T Z).g, .int .u32 (blockS T Z).h]), .bool true]) ∧ Below wr.drew.heap.size wr.drew w') :=
        rblock_any T (some ⟨b, o + a, none⟩) (e - a) Z wr.drew (hP.below (drew_below ⟨1, rfl⟩))
      generalize blockS T Z = T' at HBK HHT
      obtain ⟨c0, c1, c2, c3, c4, c5, c6, c7, fr⟩ := hs.w8
      have hgl := hs.lt
      have ban : (a : Int) < (N : Int) := by omega
      have b64 : (a : Int) + 64 ≤ (e : Int) := by omega
      have z0 : (0 : Int) ≤ (a : Int) := by omega
      have z1 : (a : Int) ≤ (a : Int) + 64 := by omega
      have z2 : (0 : Int) ≤ (a : Int) + 64 := by omega
      have z3 : IntKind.i64.wrap ((a : Int) + 64) = (a : Int) + 64 := wraps_i64 _ (by omega) (by omega)
      have z4 : ((a : Int) + 64).toNat = a + 64 := by omega
      have z5 : a + 64 - a = 64 := by omega
      have hJ1 := Is.mk (show a + 64 = 64 * (j + 1) by omega)
      clear hX hP eP hZ hHT hs hb hja hkn
      go_upto_region 6 with fail
      go_region_with (go_at_call 63; (with_reducible refine (HBK.out).mono ?_); rintro _ w6 ⟨rfl, hb6⟩; have hw6 := HS.out.drew.below hb6; have HB6 := hidden (HB.out.drew.trans (hb6.mono (Nat.le_of_lt hgl))); have HW6 := hidden hw6; obtain ⟨e0, e1, e2, e3, e4, e5, e6, e7, fr6⟩ := hw6.w8; have f0 := fr6 0; have f1 := fr6 1; have f2 := fr6 2; have f3 := fr6 3; have f4 := fr6 4; have f5 := fr6 5; have f6 := fr6 6; have f7 := fr6 7; clear hb6 hw6 fr6)
      all_goals
        go_wp2
        go_roundw
        case rel => exact ⟨j + 1, a + 64, T', hJ1, by go_num, ha64, HW6.out.put8 T', HHT, below8 HB6.out (Nat.le_refl _) T'⟩
        case measure => simp [intOf]; omega
    · have hjN : N / 64 - j = 0 := by omega
      have hTE := HT.eq
      rw [hjN, blocksS] at hTE
      subst hTE
      have hl : ¬ (a : Int) < (N : Int) := by omega
      have hBw := HB4.out.trans (hb.mono (by rw [← HG.out]; exact HB4.out.size))
      have HBW := hidden hBw
      have HB0 := hidden (Own.nil wr w.heap.size 5)
      have HR8 : Is ([] ++ bytes8 (T.list.drop 0)) D := ⟨HDE.eq.symm⟩
      have hwg : w.heap.size ≤ g := by rw [← HG.out]; exact HB4.out.size
      clear hs hb hBw HB HT hja hkn hjN HS5 HB5 HX5 HE HX4 HB2 HO2 HB3 HO3 HP3
      go_wp2
      go_loopw [6, 7] (fun o i wr => ∃ (j : Nat) (L : List Int), j ≤ 8 ∧ i = .int .i64 j ∧ Own wr w.heap.size 5 o L ∧ Is (L ++ bytes8 (T.list.drop j)) D ∧ Wd wr g 81 T.list ∧ Below w.heap.size w wr) (fun _ i _ => 8 - (intOf i).toNat)
      case atStart => exact ⟨0, [], by omega, rfl, HB0.out, HR8, HS.out, HBW.out⟩
      case round =>
        obtain ⟨j, L, hj, rfl, ho, HLR, hs, hb⟩ := hrel
        have hll : L.length ≤ 32 := by rw [← HDL.eq, ← HLR.eq]; simp
        have hlr : ∀ x ∈ L, 0 ≤ x ∧ x ≤ 255 := fun x hx => HDR.out x (by rw [← HLR.eq]; exact List.mem_append_left _ hx)
        obtain ⟨q, d, rfl, hbyt⟩ := ho.byt hlr
        have HO := hidden ho
        have HB := hidden hb
        have HYY := hidden hbyt
        have HSW := hidden hs
        clear ho hb hbyt hlr
        by_cases hlt : j < 8
        · have cg : wr.cell? ⟨g, j, none⟩ = some (.int .u32 (T.list.getD j 0)) := hs.cell j hlt
          have hv : 0 ≤ T.list.getD j 0 ∧ T.list.getD j 0 < 4294967296 := by
            have hm : T.list.getD j 0 ∈ T.list := by
              rw [List.getD_eq_getElem?_getD, List.getElem?_eq_getElem (show j < T.list.length from hlt)]
              exact List.getElem_mem _
            exact HEO.out _ hm
          have HNX := Is.mk (bytes8_drop T.list j hlt)
          generalize T.list.getD j 0 = v at cg hv HNX
          have HC : Hid (Calls Tryd.prog 32 #[.slice q L.length d, .int .u64 v, .int .i64 4] wr (BytesNew wr (L ++ be 4 v))) := rput_yes q L.length d L wr HYY.out (by omega) v (by omega) 4 (by omega) (by omega)
          clear hs
          go_wp2_with (first
            | (go_at_call 32; (with_reducible refine (HC.out).mono ?_); rintro e w' ⟨u, rfl, hown, hbel⟩)
            | fail)
          go_roundw
          case rel =>
            refine ⟨j + 1, L ++ be 4 v, by omega, by go_num, hown.mono HB.out.size, ⟨?_⟩, HSW.out.below hbel, HB.out.trans (hbel.mono HB.out.size)⟩
            rw [List.append_assoc, ← HNX.eq]
            exact HLR.eq
          case measure => simp [intOf]; omega
        · have hL : L = D := by
            have e : j = 8 := by omega
            have := HLR.eq
            rw [e, List.drop_eq_nil_of_le (show T.list.length ≤ 8 from Nat.le_refl _), bytes8, List.append_nil] at this
            exact this
          have HLF := Is.mk hL
          clear hL hs
          go_wp2
          go_ret
          exact ⟨_, rfl, by rw [← HLF.eq]; exact HO.out, HB.out⟩
end Go.Proofs.YtgpigjoonhghhaaDoor
