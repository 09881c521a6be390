/-
  The law Sha256Grows, walked: it returns true for every input, and only adds memory of its own.
-/
import Derived.Test.YtmjagbghgbemaaaDoorSha08
import Derived.Test.YtmjagbghgbemaaaDoorWEqual
import Derived.Deep.Cut
import Derived.Deep.CutRange
import Derived.Deep.RegionWith
import Derived.Deep.CutBlock
namespace Go.Proofs.YtmjagbghgbemaaaDoor
open Go.RowKit
set_option linter.unusedVariables false

theorem Wd.w8z {w : World} {g : Nat} {t : TypeId} (h : Wd w g t (List.replicate 8 0)) : W8 w g ⟨0, 0, 0, 0, 0, 0, 0, 0⟩ := Wd.w8 (s := ⟨0, 0, 0, 0, 0, 0, 0, 0⟩) h
theorem Wd.put8z {w : World} {g : Nat} {t : TypeId} (h : Wd w g t (List.replicate 8 0)) (r : H8) :
    Wd ((((((((w.setCell ⟨g, 0, none⟩ (.int .u32 r.a)).setCell ⟨g, 1, none⟩ (.int .u32 r.b)).setCell ⟨g, 2, none⟩ (.int .u32 r.c)).setCell ⟨g, 3, none⟩ (.int .u32 r.d)).setCell ⟨g, 4, none⟩ (.int .u32 r.e)).setCell ⟨g, 5, none⟩ (.int .u32 r.f)).setCell ⟨g, 6, none⟩ (.int .u32 r.g)).setCell ⟨g, 7, none⟩ (.int .u32 r.h)) g t r.list := Wd.put8 (s := ⟨0, 0, 0, 0, 0, 0, 0, 0⟩) h r
theorem Wd.othr8 {w : World} {g k : Nat} {t : TypeId} {l : List Int} (h : Wd w g t l) (hn : ¬ g = k) (r : H8) :
    Wd ((((((((w.setCell ⟨k, 0, none⟩ (.int .u32 r.a)).setCell ⟨k, 1, none⟩ (.int .u32 r.b)).setCell ⟨k, 2, none⟩ (.int .u32 r.c)).setCell ⟨k, 3, none⟩ (.int .u32 r.d)).setCell ⟨k, 4, none⟩ (.int .u32 r.e)).setCell ⟨k, 5, none⟩ (.int .u32 r.f)).setCell ⟨k, 6, none⟩ (.int .u32 r.g)).setCell ⟨k, 7, none⟩ (.int .u32 r.h)) g t l :=
  (((((((h.other ⟨k, 0, none⟩ _ hn).other ⟨k, 1, none⟩ _ hn).other ⟨k, 2, none⟩ _ hn).other ⟨k, 3, none⟩ _ hn).other ⟨k, 4, none⟩ _ hn).other ⟨k, 5, none⟩ _ hn).other ⟨k, 6, none⟩ _ hn).other ⟨k, 7, none⟩ _ hn
set_option maxHeartbeats 3200000 in
set_option maxRecDepth 100000 in
theorem sha256Grows_walk (p : Option Addr) (n c : Nat) (xs : List Int) (w : World) (h : Byt w p n c xs) (hb : c ≤ 140737488351232) (hK : KAt w) :
    Calls Tryd.prog 5 #[.slice p n c] w fun e w' => e = .returned (.bool true) ∧ Below w.heap.size w w' := by
  have HA := hidden (awake08_any w hK)
  have HX := hidden h
  have HK := hidden hK
  have hcm := h.cap
  obtain ⟨iu, hiu, hzu0, hzu1, hzu2⟩ := info_parts Tryd.infoU32
  obtain ⟨i0, hi, hz0, hz1, hz2⟩ := info_parts Tryd.infoByte
  clear h hK
  go_enter Tryd.func5, Tryd.ntmps5
  go_upto_if 15 with (first
    | (go_at_call 13; (with_reducible refine (HA.out).mono ?_); rintro e w1 ⟨rfl, hb⟩; have HB1 := hidden hb; clear hb)
    | fail)
  go_cut [0] from 11 to 17 (fun a wx => ∃ m, a = .slice p m c ∧ m ≤ 1000 ∧ Byt w p m c (xs.take m) ∧ Below w.heap.size w wx)
  case first =>
    by_cases hlt : n ≤ 1000
    · have h1 : ¬ (1000 : Int) < n := by omega
      have HF := hidden HX.out
      have hx := HF.out.len
      go_wp2
      go_meet
      case rel => exact ⟨n, rfl, hlt, by rw [List.take_of_length_le (by omega)]; exact HF.out, HB1.out⟩
    · have h1 : (1000 : Int) < n := by omega
      have h2 : (1000 : Int) ≤ c := by omega
      have HF := hidden (HX.out.front 1000 (by omega))
      go_wp2
      go_meet
      case rel => exact ⟨1000, rfl, by omega, HF.out, HB1.out⟩
  case rest =>
    obtain ⟨m, rfl, hm, hY0, hBc⟩ := hcut
    have hyl := hY0.len
    generalize xs.take m = ys at hY0 hyl
    have HY0 := hidden hY0
    have hY := hY0.below hBc
    clear hY0
    obtain ⟨L, hL⟩ : ∃ L, (padS m).length = L := ⟨_, rfl⟩
    have h9 : 9 ≤ L := by rw [← hL, padS_len]; omega
    have h72 : L ≤ 72 := by rw [← hL, padS_len]; have := padZ_lt m; omega
    have hdiv := padS_div m
    rw [hL] at hdiv
    obtain ⟨X, hX⟩ : ∃ X, ys ++ padS m = X := ⟨_, rfl⟩
    have hXl : X.length = m + L := by rw [← hX, List.length_append, hL, hyl]
    have hXr : ∀ x ∈ X, 0 ≤ x ∧ x ≤ 255 := by rw [← hX]; exact rng_append hY.rng (padS_rng m)
    obtain ⟨D, hD⟩ : ∃ D, shaS ys = D := ⟨_, rfl⟩
    have hDX : D = bytes8 (blocksS ((m + L) / 64) initS X).list := by rw [← hD, ← hX, ← hXl, ← hX]; unfold shaS; rw [hyl]
    have HPAD := hidden (fun W => pad_any m (by omega) W)
    have HPL := Is.mk hL
    have HPR := hidden (padS_rng m)
    have HXL := Is.mk hXl
    have HXR := hidden hXr
    have HXE := Is.mk hX
    have HDX := Is.mk hDX
    have HD := Is.mk hD
    have HDIV := hidden hdiv
    have HY := hidden hY
    have HBC := hidden hBc
    have HYL := Is.mk hyl
    have hmc := hY.cap
    clear HX HA HB1 hY hBc hyl hL hdiv hX hXl hXr hD hDX
    go_wp2_with (first
      | (at_builtin; refine wpList_append_byt _ rfl (.const (.slice none 0 0)) (.tmp 18) 22 rfl w.heap.size 5 i0 (.int .u8 0) Tryd.underlying22 hi hz0 hz1 hz2 rfl _ _ rfl (Own.nil _ w.heap.size 5) _ _ _ _ _ rfl HY.out rfl ?b1 HBC.out.size ?_; case b1 => (simp; omega))
      | fail)
    intro u w2 hown hg
    have HB2 := hidden (HBC.out.grown hg HBC.out.size (nob _))
    have HO2 := hidden hown
    clear hown hg HBC HY
    go_wp2_with (first
      | (go_at_call 17; (with_reducible refine (HPAD.out _).mono ?_); rintro e w3 ⟨v, rfl, hown, hbel⟩; obtain ⟨q, d, rfl, hbyt⟩ := hown.bytN rfl HPL.eq HPR.out; have HB3 := hidden (HB2.out.trans (hbel.mono HB2.out.size)); have HO3 := hidden (HO2.out.below hbel); have HP3 := hidden hbyt; clear hown hbel hbyt)
      | (at_builtin; refine wpList_append_byt _ rfl (.tmp 19) (.tmp 22) 22 rfl w.heap.size 5 i0 (.int .u8 0) Tryd.underlying22 hi hz0 hz1 hz2 rfl _ _ rfl HO3.out _ _ _ _ _ rfl HP3.out rfl ?b2 HB3.out.size ?_; case b2 => (rw [HYL.eq]; omega))
      | fail)
    intro v w4 hown hg
    rw [HXE.eq] at hown
    obtain ⟨r, e, rfl, hbyt⟩ := hown.bytN rfl HXL.eq HXR.out
    obtain ⟨b, o, rfl, _⟩ := hbyt.at_ (by omega)
    have hce := hbyt.cap
    have hem := hbyt.big
    unfold maxLen at hem
    have hB4 := HB3.out.grown hg HB3.out.size (fun k hk => (HO3.out.lt k hk).1)
    have hY4 := HY0.out.below hB4
    have HB4 := hidden hB4
    have HY4 := hidden hY4
    have HX4 := hidden hbyt
    have HK4 := hidden (HK.out.below hB4 HK.out.lt)
    have hd1 : ((m : Int) + (L : Int)) % 64 = 0 := by have := HDIV.out; omega
    have e1 : ((m + L : Nat) : Int) = (m : Int) + (L : Int) := by omega
    obtain ⟨N, hN⟩ : ∃ N, m + L = N := ⟨_, rfl⟩
    have hN0 : (N : Int) % 64 = 0 := by omega
    have hN1 : ¬ (N : Int) - (m : Int) < 9 := by omega
    have hN2 : ¬ (72 : Int) < (N : Int) - (m : Int) := by omega
    have hN3 : N ≤ 1072 := by omega
    rw [hN] at HDX HX4 hce ⊢
    clear hd1 e1 hg hown hbyt hY4 hB4
    go_upto_region 9 with fail
    obtain ⟨g, hg⟩ : ∃ g, w4.heap.size = g := ⟨_, rfl⟩
    obtain ⟨s0, hs0⟩ : ∃ s0, initS = s0 := ⟨_, rfl⟩
    generalize hw5 : w4.alloc (.cells _ 50) = w5
    have hs5 : Wd w5 g 50 s0.list := by
      rw [← hw5, ← hs0, ← hg]
      exact Wd.new w4 _ initS.list _ rfl
    have hb5 : Below g w4 w5 := by
      rw [← hw5, ← hg]
      exact (Below.refl _ w4).alloc (Nat.le_refl _) _
    clear hw5
    have HS5 := hidden hs5
    have HB5 := hidden hb5
    have HG := hidden hg
    have HX5 := hidden (fun W (hb : Below g w4 W) => HX4.out.below (by rw [HG.out]; exact hb))
    have HK5 := hidden (fun W (hb : Below g w4 W) => HK4.out.below hb (by rw [← HG.out]; exact HK4.out.lt))
    obtain ⟨E, hE⟩ : ∃ E, blocksS (N / 64) s0 X = E := ⟨_, rfl⟩
    have HE : Is (blocksS (N / 64 - 0) s0 (X.drop 0)) E := ⟨hE⟩
    have HDE : Is D (bytes8 E.list) := ⟨by rw [HDX.eq, hs0, hE]⟩
    have HNX := Is.mk hN
    have HKN := hidden (show 64 * (N / 64) = N by omega)
    have HEO : Hid E.ok := by
      rw [← hE]
      refine blocksS_ok _ _ _ ?_
      rw [← hs0]
      exact initS_ok
    clear hs5 hb5 hE hs0 hN HDX
    rw [hg]
    clear hg
    go_wp2
    go_loopw [5] (fun i wr => ∃ (j a : Nat) (T : H8), Is a (64 * j) ∧ i = .int .i64 a ∧ a ≤ N ∧ Wd wr g 50 T.list ∧ Is (blocksS (N / 64 - j) T (X.drop a)) E ∧ Below g w4 wr) (fun i _ => N - (intOf i).toNat)
    case atStart => exact ⟨0, 0, s0, ⟨rfl⟩, rfl, by omega, HS5.out, HE, HB5.out⟩
    case round =>
      obtain ⟨j, a, T, HJ, rfl, haN, hs, HT, hb⟩ := hrel
      have hja := HJ.eq
      have hkn := HKN.out
      have HS := hidden hs
      have HB := hidden hb
      by_cases hlt : a < N
      · have ha64 : a + 64 ≤ N := by omega
        have hX := HX5.out wr hb
        have hP := hX.part a (a + 64) (by omega) ha64
        have hea : ¬ e = a := by omega
        have eP : Option.map (fun x : Addr => x.add a) (some ⟨b, o, none⟩) = some ⟨b, o + a, none⟩ := by simp [Addr.add]
        rw [if_neg hea, eP, show a + 64 - a = 64 by omega, List.drop_take, show a + 64 - a = 64 by omega] at hP
        obtain ⟨Z, hZ⟩ : ∃ Z, (X.drop a).take 64 = Z := ⟨_, rfl⟩
        rw [hZ] at hP
        have hHT := HT.eq
        rw [show N / 64 - j = (N / 64 - (j + 1)) + 1 by omega, blocksS, hZ, List.drop_drop] at hHT
        have HHT := Is.mk hHT
        have HP := hidden hP
        have hKw := HK5.out wr hb
        have HBK : Hid (∀ W, Below wr.heap.size wr W → Calls Tryd.prog 18 #[(.agg #[.int .u32 T.a, .int .u32 T.b, .int .u32 T.c, .int .u32 T.d, .int .u32 T.e, .int .u32 T.f, .int .u32 T.g, .int .u32 T.h]), .slice (some ⟨b, o + a, none⟩) 64 (e - a)] W fun e w' => e = .returned (.tuple #[(.agg #[.int .u32 (blockS T Z).a, .int .u32 (blockS T Z).b, .int .u32 (blockS T Z).c, .int .u32 (blockS T Z).d, .int .u32 (blockS T Z).e, .int .u32 (blockS T Z).f, .int .u32 (blockS T Z).g, .int .u32 (blockS T Z).h]), .bool true]) ∧ Below W.heap.size W w') := fun W hW =>
          block_any T (some ⟨b, o + a, none⟩) (e - a) Z W (hP.below hW) (hKw.below hW hKw.lt)
        generalize blockS T Z = T' at HBK HHT
        obtain ⟨c0, c1, c2, c3, c4, c5, c6, c7, fr⟩ := hs.w8
        have hgl := hs.lt
        have ban : (a : Int) < (N : Int) := by omega
        have b64 : (a : Int) + 64 ≤ (e : Int) := by omega
        have z0 : (0 : Int) ≤ (a : Int) := by omega
        have z1 : (a : Int) ≤ (a : Int) + 64 := by omega
        have z2 : (0 : Int) ≤ (a : Int) + 64 := by omega
        have z3 : IntKind.i64.wrap ((a : Int) + 64) = (a : Int) + 64 := wraps_i64 _ (by omega) (by omega)
        have z4 : ((a : Int) + 64).toNat = a + 64 := by omega
        have z5 : a + 64 - a = 64 := by omega
        have hJ1 := Is.mk (show a + 64 = 64 * (j + 1) by omega)
        clear hX hP eP hZ hHT hKw hs hb hja hkn
        go_upto_region 12 with fail
        have HD1 := hidden (show Below wr.heap.size wr wr.drew from drew_below ⟨1, rfl⟩)
        have HD2 := hidden (show Below wr.heap.size wr (wr.alloc (.cells #[.int .u32 0, .int .u32 0, .int .u32 0, .int .u32 0, .int .u32 0, .int .u32 0, .int .u32 0, .int .u32 0] 50)).drew from ((Below.refl _ wr).alloc (Nat.le_refl _) _).drew)
        have HZ2 := hidden (show Wd (wr.alloc (.cells #[.int .u32 0, .int .u32 0, .int .u32 0, .int .u32 0, .int .u32 0, .int .u32 0, .int .u32 0, .int .u32 0] 50)).drew wr.heap.size 50 (List.replicate 8 0) from (Wd.new wr _ (List.replicate 8 0) _ rfl).drew)
        have hgne : ¬ g = wr.heap.size := by omega
        have hgne2 : ¬ wr.heap.size = g := by omega
        go_cut [6, 7] from 51 to 60 (fun x y wx => ∃ k, x = .pointer (some ⟨k, 0, none⟩) ∧ y = .bool true ∧ g < k ∧ Wd wx k 50 T'.list ∧ Wd wx g 50 T.list ∧ Below g w4 wx)
        case first =>
          go_region_with (first
            | (go_at_call 18; (with_reducible refine (HBK.out wr.drew HD1.out).mono ?_); rintro _ w6 ⟨rfl, hb6⟩; have hbw := HD1.out.trans (hb6.mono HD1.out.size); have HW6 := hidden (HS.out.below hbw); have HB6 := hidden (HB.out.trans (hbw.mono (Nat.le_of_lt hgl))); have hg6 := HW6.out.lt; clear hb6 hbw)
            | (go_at_call 18; (with_reducible refine (HBK.out (wr.alloc (.cells #[.int .u32 0, .int .u32 0, .int .u32 0, .int .u32 0, .int .u32 0, .int .u32 0, .int .u32 0, .int .u32 0] 50)).drew HD2.out).mono ?_); rintro _ w6 ⟨rfl, hb6⟩; have hbw := HD2.out.trans (hb6.mono HD2.out.size); have HW6 := hidden (HS.out.below hbw); have HB6 := hidden (HB.out.trans (hbw.mono (Nat.le_of_lt hgl))); have HZ6 := hidden (HZ2.out.below hb6); have hg6 := HW6.out.lt; obtain ⟨e0, e1, e2, e3, e4, e5, e6, e7, fr6⟩ := HZ6.out.w8z; have f0 := fr6 0; have f1 := fr6 1; have f2 := fr6 2; have f3 := fr6 3; have f4 := fr6 4; have f5 := fr6 5; have f6 := fr6 6; have f7 := fr6 7; clear hb6 hbw fr6)
            | fail)
          all_goals
            go_wp2
            go_meet
            case rel => first
              | (have hz := HZ6.out; exact ⟨wr.heap.size, rfl, rfl, hgl, hz.put8z T', HW6.out.othr8 hgne T', (((((((HB6.out.setCell (p := ⟨wr.heap.size, 0, none⟩) (Nat.le_of_lt hgl) (.int .u32 T'.a)).setCell (p := ⟨wr.heap.size, 1, none⟩) (Nat.le_of_lt hgl) (.int .u32 T'.b)).setCell (p := ⟨wr.heap.size, 2, none⟩) (Nat.le_of_lt hgl) (.int .u32 T'.c)).setCell (p := ⟨wr.heap.size, 3, none⟩) (Nat.le_of_lt hgl) (.int .u32 T'.d)).setCell (p := ⟨wr.heap.size, 4, none⟩) (Nat.le_of_lt hgl) (.int .u32 T'.e)).setCell (p := ⟨wr.heap.size, 5, none⟩) (Nat.le_of_lt hgl) (.int .u32 T'.f)).setCell (p := ⟨wr.heap.size, 6, none⟩) (Nat.le_of_lt hgl) (.int .u32 T'.g)).setCell (p := ⟨wr.heap.size, 7, none⟩) (Nat.le_of_lt hgl) (.int .u32 T'.h)⟩)
              | exact ⟨w6.heap.size, rfl, rfl, HW6.out.lt, Wd.new w6 _ T'.list _ rfl, HW6.out.alloc _, HB6.out.alloc (Nat.le_of_lt HW6.out.lt) _⟩
        case rest =>
          obtain ⟨k, rfl, rfl, hgk, hk, hg, hbc⟩ := hcut
          obtain ⟨k0, k1, k2, k3, k4, k5, k6, k7, kr⟩ := hk.w8
          obtain ⟨g0, g1, g2, g3, g4, g5, g6, g7, gr⟩ := hg.w8
          have r0 := gr 0
          have r1 := gr 1
          have r2 := gr 2
          have r3 := gr 3
          have r4 := gr 4
          have r5 := gr 5
          have r6 := gr 6
          have r7 := gr 7
          have HGW := hidden (hg.put8 T')
          have HBW := hidden ((((((((hbc.setCell (p := ⟨g, 0, none⟩) (Nat.le_refl _) (.int .u32 T'.a)).setCell (p := ⟨g, 1, none⟩) (Nat.le_refl _) (.int .u32 T'.b)).setCell (p := ⟨g, 2, none⟩) (Nat.le_refl _) (.int .u32 T'.c)).setCell (p := ⟨g, 3, none⟩) (Nat.le_refl _) (.int .u32 T'.d)).setCell (p := ⟨g, 4, none⟩) (Nat.le_refl _) (.int .u32 T'.e)).setCell (p := ⟨g, 5, none⟩) (Nat.le_refl _) (.int .u32 T'.f)).setCell (p := ⟨g, 6, none⟩) (Nat.le_refl _) (.int .u32 T'.g)).setCell (p := ⟨g, 7, none⟩) (Nat.le_refl _) (.int .u32 T'.h))
          clear hk hg hbc kr gr HBK HD1 HD2 HZ2 c0 c1 c2 c3 c4 c5 c6 c7 fr
          go_wp2
          go_roundw
          case rel => exact ⟨j + 1, a + 64, T', hJ1, by go_num, ha64, HGW.out, HHT, HBW.out⟩
          case measure => simp [intOf]; omega
      · have hjN : N / 64 - j = 0 := by omega
        have hTE := HT.eq
        rw [hjN, blocksS] at hTE
        subst hTE
        have hl : ¬ (a : Int) < (N : Int) := by omega
        have HL : Hid (wr.heap[g]? = some (.cells #[.int .u32 T.a, .int .u32 T.b, .int .u32 T.c, .int .u32 T.d, .int .u32 T.e, .int .u32 T.f, .int .u32 T.g, .int .u32 T.h] 50 (0, 0))) := hs.heap
        have HIT : Hid (∀ (j : Nat), j < 8 → ∀ w' : World, (Instr.index 50 (.agg #[.int .u32 T.a, .int .u32 T.b, .int .u32 T.c, .int .u32 T.d, .int .u32 T.e, .int .u32 T.f, .int .u32 T.g, .int .u32 T.h]) (.int .i64 j)).run Tryd.prog w' = .ok (.int .u32 (T.list.getD j 0)) w') := fun j hj w' => run_index (P := Tryd.prog) Tryd.underlying50 Tryd.underlying49 hiu hzu1 T.list rfl j hj w'
        have hBw := HB4.out.trans (hb.mono (by rw [← HG.out]; exact HB4.out.size))
        have HBW := hidden hBw
        have HB0 := hidden (Own.nil wr w.heap.size 5)
        have HR8 : Is ([] ++ bytes8 (T.list.drop 0)) D := ⟨HDE.eq.symm⟩
        have HDL : Is D.length 32 := ⟨by rw [← HD.eq]; exact shaS_len ys⟩
        have HDR : Hid (∀ x ∈ D, 0 ≤ x ∧ x ≤ 255) := by rw [← HD.eq]; exact shaS_rng ys
        clear hs hb hBw HS HB HT hja hkn hjN hiu hzu0 hzu1 hzu2
        go_wp2_with (first
          | (refine wpList_load_row rfl 50 _ rfl g rfl 50 _ (0, 0) _ HL.out Tryd.underlying50 rfl info8 ?_)
          | fail)
        go_loopw [8, 65] (fun o i wr => ∃ (j : Nat) (L : List Int), j ≤ 8 ∧ i = .int .i64 j ∧ Own wr w.heap.size 5 o L ∧ Is (L ++ bytes8 (T.list.drop j)) D ∧ Below w.heap.size w wr) (fun _ i _ => 8 - (intOf i).toNat)
        case atStart => exact ⟨0, [], by omega, rfl, HB0.out, HR8, HBW.out⟩
        case round =>
          obtain ⟨j, L, hj, rfl, ho, HLR, hb⟩ := hrel
          have hll : L.length ≤ 32 := by rw [← HDL.eq, ← HLR.eq]; simp
          have hlr : ∀ x ∈ L, 0 ≤ x ∧ x ≤ 255 := fun x hx => HDR.out x (by rw [← HLR.eq]; exact List.mem_append_left _ hx)
          obtain ⟨q, d, rfl, hbyt⟩ := ho.byt hlr
          have HO := hidden ho
          have HB := hidden hb
          have HYY := hidden hbyt
          clear ho hb hbyt hlr
          by_cases hlt : j < 8
          · have hix := HIT.out j hlt
            have hv : 0 ≤ T.list.getD j 0 ∧ T.list.getD j 0 < 4294967296 := by
              have hm : T.list.getD j 0 ∈ T.list := by
                rw [List.getD_eq_getElem?_getD, List.getElem?_eq_getElem (show j < T.list.length from hlt)]
                exact List.getElem_mem _
              exact HEO.out _ hm
            have HNX := Is.mk (bytes8_drop T.list j hlt)
            generalize T.list.getD j 0 = v at hix hv HNX
            have HC : Hid (Calls Tryd.prog 19 #[.slice q L.length d, .int .u64 v, .int .i64 4] wr (BytesPut wr (L ++ be 4 v))) := put_yes q L.length d L wr HYY.out (by omega) v (by omega) 4 (by omega) (by omega)
            go_wp2_with (first
              | (go_at_call 19; (with_reducible refine (HC.out).mono ?_); rintro e w' ⟨u, rfl, hown, hbel⟩)
              | fail)
            go_roundw
            case rel =>
              refine ⟨j + 1, L ++ be 4 v, by omega, by go_num, hown.mono HB.out.size, ⟨?_⟩, HB.out.trans (hbel.mono HB.out.size)⟩
              rw [List.append_assoc, ← HNX.eq]
              exact HLR.eq
            case measure => simp [intOf]; omega
          · have hL : L = D := by
              have e : j = 8 := by omega
              have := HLR.eq
              rw [e, List.drop_eq_nil_of_le (show T.list.length ≤ 8 from Nat.le_refl _), bytes8, List.append_nil] at this
              exact this
            have HS : Hid (Calls Tryd.prog 15 #[.slice p m c] wr (BytesPut wr D)) := by
              have := sum_any p m c ys wr (HY0.out.below HB.out) (by omega) (HK.out.below HB.out HK.out.lt)
              rw [HD.eq] at this
              exact this
            have HEQ := hidden (fun W q2 d2 (h1 : Byt W q L.length d L) (h2 : Byt W q2 32 d2 D) => equal_any q q2 L.length d 32 d2 L D W h1 h2)
            rw [show decide (L = D) = true from decide_eq_true hL] at HEQ
            clear hL
            go_wp2_with (first
              | (go_at_call 15; (with_reducible refine (HS.out).mono ?_); rintro _ w9 ⟨v9, rfl, hown9, hbel9⟩; obtain ⟨q9, d9, rfl, hbyt9⟩ := hown9.bytN rfl HDL.eq HDR.out; have HB9 := hidden (HB.out.trans (hbel9.mono HB.out.size)); have H91 := hidden (HYY.out.below hbel9); have H92 := hidden hbyt9; clear hown9 hbel9 hbyt9)
              | (go_at_call 20; (with_reducible refine (HEQ.out _ _ _ H91.out H92.out).mono ?_); rintro _ w' ⟨rfl, rfl⟩)
              | fail)
            go_ret
            exact ⟨rfl, HB9.out⟩
end Go.Proofs.YtmjagbghgbemaaaDoor
