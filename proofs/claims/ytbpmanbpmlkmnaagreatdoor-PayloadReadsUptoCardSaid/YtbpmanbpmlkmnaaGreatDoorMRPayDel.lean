/-
  The document's own reader of deletions.
-/
import Derived.Test.YtbpmanbpmlkmnaaGreatDoorMZ19
import Derived.Test.YtbpmanbpmlkmnaaGreatDoorMZ9
import Derived.Test.YtbpmanbpmlkmnaaGreatDoorMZ10
import Derived.Test.YtbpmanbpmlkmnaaGreatDoorMZ8
namespace Go.Proofs.YtbpmanbpmlkmnaaGreatDoor
open Go.RowKit
set_option linter.unusedVariables false
set_option linter.unusedSimpArgs false

section
variable {w : World} {g : Nat} {k : Int} {s : Sv}
theorem load_dl6 (h : DlIn w g k (.slice s.p s.n s.c)) : (loadVar 42 ⟨g, 0, none⟩).run Tryz.prog w = .ok (.agg #[.int .i64 k, .slice s.p s.n s.c]) w := by
  obtain ⟨c0, c1, fr⟩ := h
  simp [loadVar, go_sem, c0, c1, Result.andThen]
theorem ret_dl6 {fn : Func} {R : Ending → World → Prop} {act : Act} {p u : Nat} {v : Value} (h : fn.results = #[.cell p 42, .tmp u]) (hp : act.tmps.getD p undef = .pointer (some ⟨g, 0, none⟩)) (hu : act.tmps.getD u undef = v) (hd : act.defers = [])
    (hh : DlIn w g k (.slice s.p s.n s.c)) (hR : R (.returned (.tuple #[.agg #[.int .i64 k, .slice s.p s.n s.c], v])) w) : bodyPost Tryz.prog fn R .ret act w := by
  refine bodyPost_ret (v := .tuple #[.agg #[.int .i64 k, .slice s.p s.n s.c], v]) ?_ hd hR
  rw [Array.getD_eq_getD_getElem?] at hp hu
  simp [results, h, hp, hu, asAddr, load_dl6 hh, Result.andThen]
theorem DlIn.setAll {w : World} {g : Nat} {k : Int} {v : Value} (h : DlIn w g k v) (k' : Int) (u : Value) : DlIn ((w.setCell ⟨g, 0, none⟩ (.int .i64 k')).setCell ⟨g, 1, none⟩ u) g k' u := by
  obtain ⟨c0, c1, fr⟩ := h
  exact ⟨by go_simp, by go_simp, fun j => by simp only [World.frozen?_setCell]; exact fr j⟩
end
theorem DlIn.belowB {w w' : World} {r B : Nat} {k : Int} {v : Value} (h : DlIn w r k v) (hb : Below B w w') (hr : r < B) : DlIn w' r k v :=
  ⟨(hb.cell (p := ⟨r, 0, none⟩) hr).trans h.c0, (hb.cell (p := ⟨r, 1, none⟩) hr).trans h.c1, fun j => (World.frozen?_of_block (a := ⟨r, j, none⟩) (hb.block r hr)).trans (h.fr j)⟩
theorem spisL_four (ys : List Int) (Z M : Nat) (h : (Z = 0 ∧ M = 0) ∨ Z = 4) (hl : ys.length = Z * M) : ∀ y ∈ spisL ys Z M, y.length = 4 := by
  intro y hy
  unfold spisL at hy
  obtain ⟨i, hi, rfl⟩ := List.mem_map.1 hy
  have hi' := List.mem_range.1 hi
  rcases h with ⟨_, h0⟩ | h4
  · omega
  · subst h4
    rw [List.length_take, List.length_drop, hl]
    omega
/-- What the document's reader returns. -/
def RemovedR (w : World) (xs : List Int) (E : Int) (e : Ending) (w' : World) : Prop :=
  ∃ (k : Int) (s : Sv), e = .returned (.tuple #[.agg #[.int .i64 k, .slice s.p s.n s.c], .int .i64 E]) ∧ Below w.heap.size w w' ∧
    (E = 0 → k = nthB xs 0 ∧ ∃ l : List Sb, RowG KSb NSb w' w.heap.size (.slice s.p s.n s.c) l ∧ l.map Sb.xs = spisL (xs.drop 4) (nthB xs 1).toNat (nthB xs 2 * 256 + nthB xs 3).toNat ∧ l.length = s.n)
theorem delE_four (xs : List Int) (n : Nat) : delE xs n = if n < 4 then 1 else if nthB xs 0 < 1 ∨ 3 < nthB xs 0 then 5 else if nthB xs 1 ≠ widthN (nthB xs 0) ∨ (nthB xs 0 = 1 ∧ nthB xs 2 * 256 + nthB xs 3 ≠ 0) then 20
    else if (n : Int) - 4 ≠ nthB xs 1 * (nthB xs 2 * 256 + nthB xs 3) then 2 else if nthB xs 0 ≠ 1 ∧ (nthB xs 2 * 256 + nthB xs 3).toNat = 0 then 8 else if twiceW [] (spisL (xs.drop 4) (nthB xs 1).toNat (nthB xs 2 * 256 + nthB xs 3).toNat) then 9 else 0 := by
  unfold delE spisX
  generalize nthB xs 0 = k
  generalize nthB xs 1 = z
  generalize nthB xs 2 * 256 + nthB xs 3 = T
  have hl : (spisL (xs.drop 4) z.toNat T.toNat).length = T.toNat := by simp [spisL]
  rw [hl]
  by_cases h4 : n < 4
  · rw [if_pos h4, if_pos h4]
  rw [if_neg h4, if_neg h4]
  by_cases hk : k < 1 ∨ 3 < k
  · have hD : deleteE k z T = 5 := by unfold deleteE; rw [if_pos (by omega)]
    rw [if_pos hk, hD, if_pos (by decide)]
  rw [if_neg hk, width_spi k (by omega) (by omega)]
  by_cases hz : z = (spiZ k : Int) ∧ ¬ (k = 1 ∧ T ≠ 0)
  · have hD : deleteE k z T = 0 := by unfold deleteE; rw [if_neg (by omega), if_pos hz]
    have hno : ¬ (z ≠ (spiZ k : Int) ∨ (k = 1 ∧ T ≠ 0)) := by
      rintro (h | h)
      · exact h hz.1
      · exact hz.2 h
    rw [hD, if_neg (show ¬ ((0 : Int) ≠ 0) by decide), if_neg hno]
    by_cases hn : (n : Int) - 4 ≠ z * T
    · rw [if_pos hn, if_pos hn]
    · rw [if_neg hn, if_neg hn]
      by_cases h8 : T.toNat = 0 ∧ k ≠ 1
      · rw [if_pos h8, if_pos ⟨h8.2, h8.1⟩]
      · have h8' : ¬ (k ≠ 1 ∧ T.toNat = 0) := fun h => h8 ⟨h.2, h.1⟩
        rw [if_neg h8, if_neg h8']
  · have hD : deleteE k z T = 20 := by unfold deleteE; rw [if_neg (by omega), if_neg hz]
    rw [hD, if_pos (by decide), if_pos (by omega)]

set_option maxHeartbeats 6400000 in
set_option maxRecDepth 100000 in
theorem rremove_any (p : Option Addr) (n c : Nat) (xs : List Int) (w : World) (h : Byt w p n c xs) (hb : n ≤ 140737488355328) :
    Calls Tryz.prog 26 #[.slice p n c] w (RemovedR w xs (delE xs n)) := by
  obtain ⟨i0, hi0, hz0, hz1, hz2⟩ := info_parts Tryz.infoByte
  have hn := h.le
  have hcap := h.cap
  have hbig := h.big
  have hlen := h.len
  have HB := hidden ((Below.refl w.heap.size w).alloc (Nat.le_refl _) (.cells #[.int .i64 0, .slice none 0 0] 42))
  have HNT := hidden (DlIn.new w 0 42)
  have hE := delE_four xs n
  obtain ⟨E, hEd⟩ : ∃ E, delE xs n = E := ⟨_, rfl⟩
  rw [hEd] at hE ⊢
  clear hEd
  by_cases h4 : n < 4
  · rw [if_pos h4] at hE
    subst hE
    have h4' : (n : Int) < 4 := by omega
    clear h
    obtain ⟨k0, k1, kf⟩ := HNT.out
    go_enter Tryz.func26, Tryz.ntmps26
    go_wp2
    exact ret_dl6 (g := w.heap.size) (s := nilV) rfl rfl rfl rfl HNT.out ⟨0, nilV, rfl, HB.out, fun h => absurd h (by decide)⟩
  rw [if_neg h4] at hE
  obtain ⟨b, o, rfl, hc⟩ := h.at_ (by omega)
  have hbl := h.lt (by omega)
  have r0 := rng_getD h.rng 0
  have r1 := rng_getD h.rng 1
  have r2 := rng_getD h.rng 2
  have r3 := rng_getD h.rng 3
  have HW := hidden (rwidth_any (nthB xs 0))
  have h4' : ¬ (n : Int) < 4 := by omega
  have hn0 : (0 : Int) < (n : Int) := by omega
  have hn0N : 0 < n := by omega
  have hn1 : (1 : Int) < (n : Int) := by omega
  have HBD := hidden HB.out.drew
  have c0 := cell_below HBD.out _ _ (hc 0 (by omega))
  have c1 := cell_below HBD.out _ _ (hc 1 (by omega))
  have HNO := hidden (rnumber_yes (some ⟨b, o, none⟩) n c xs _ (h.below HBD.out) 2 2 (by omega) (by omega) (by omega))
  rw [val_two xs 2 (by omega), show (2 : Nat) + 1 = 3 from rfl, show ((2 : Nat) : Int) = 2 from rfl] at HNO
  have HP := hidden (fun W (hW : Below w.heap.size w W) => (h.below hW))
  obtain ⟨x0, hx0⟩ : ∃ x, nthB xs 0 = x := ⟨_, rfl⟩
  obtain ⟨x1, hx1⟩ : ∃ x, nthB xs 1 = x := ⟨_, rfl⟩
  obtain ⟨T, hT⟩ : ∃ x, nthB xs 2 * 256 + nthB xs 3 = x := ⟨_, rfl⟩
  have hTr : 0 ≤ T ∧ T ≤ 65535 := by rw [← hT]; unfold nthB; omega
  rw [show xs.getD 0 0 = x0 from hx0] at c0 r0
  rw [show xs.getD 1 0 = x1 from hx1] at c1 r1
  rw [hx0] at HW hE
  rw [hx1] at hE
  rw [hT] at HNO hE
  rw [Nat.add_zero] at c0
  have HWX : Hid (widthN x0 = if x0 = 0 ∨ x0 = 1 then 0 else 4) := rfl
  generalize widthN x0 = wd at *
  have hor : b < w.heap.size := hbl
  have HE0 := Is.mk hx0
  have HE1 := Is.mk hx1
  have HET := Is.mk hT
  obtain ⟨Z, rfl⟩ := Int.eq_ofNat_of_zero_le r1.1
  obtain ⟨M, rfl⟩ := Int.eq_ofNat_of_zero_le hTr.1
  have hZM : Z * M ≤ 255 * 65535 := Nat.mul_le_mul (by omega) (by omega)
  have hwm : IntKind.i64.wrap ((Z : Int) * (M : Int)) = (Z : Int) * (M : Int) := by
    rw [show (Z : Int) * (M : Int) = ((Z * M : Nat) : Int) from (Int.natCast_mul Z M).symm]
    exact wraps_i64 _ (by omega) (by omega)
  have hwT : IntKind.i64.wrap (M : Int) = (M : Int) := wraps_i64 _ (by omega) (by omega)
  have hwx0 : IntKind.i64.wrap x0 = x0 := wraps_i64 _ (by omega) (by omega)
  have hwx1 : IntKind.i64.wrap (Z : Int) = (Z : Int) := wraps_i64 _ (by omega) (by omega)
  have HC0 := hidden (fun W (hW : Below (w.alloc (.cells #[.int .i64 0, .slice none 0 0] 42)).drew.heap.size (w.alloc (.cells #[.int .i64 0, .slice none 0 0] 42)).drew W) => HNT.out.below ((Below.refl _ _).drew.trans hW))
  clear h hc hx0 hx1 hT r2 r3
  go_enter Tryz.func26, Tryz.ntmps26
  go_upto_region 3 with fail
  go_region
  go_upto_block 0 with (first
    | (go_at_call 22; (with_reducible refine (HNO.out).mono ?_); rintro e w1 ⟨rfl, rfl⟩)
    | fail)
  generalize hwD : (w.alloc (.cells _ 42)).drew = wD at *
  have HND : Hid (DlIn wD w.heap.size 0 (.slice none 0 0)) := by rw [← hwD]; exact hidden (HNT.out.below (Below.refl _ _).drew)
  have HCD := hidden (fun W (hW : Below wD.heap.size wD W) => HND.out.below hW)
  obtain ⟨k0, k1, kf⟩ := HND.out
  clear hwD HC0 HNT HB
  have hbm : (n : Int) - 4 = ((n - 4 : Nat) : Int) := by omega
  have HBM := Is.mk hbm
  clear hbm
  go_cut [] from 27 to 66 (fun wx => ((Z = 0 ∧ M = 0) ∨ (Z = 4 ∧ x0 ≠ 1)) ∧ n - 4 = Z * M ∧ Hid (E = if twiceW [] (spisL (xs.drop 4) Z M) = true then 9 else 0) ∧ Below wD.heap.size wD wx)
  case first =>
    by_cases hk1 : x0 < 1
    · rw [if_pos (Or.inl hk1)] at hE
      subst hE
      have HZ := hidden (DlIn.setAll HND.out 0 (.slice none 0 0))
      have HBZ := hidden ((HBD.out.setCell (p := ⟨w.heap.size, 0, none⟩) (Nat.le_refl w.heap.size) (.int .i64 0)).setCell (p := ⟨w.heap.size, 1, none⟩) (Nat.le_refl w.heap.size) (.slice none 0 0))
      go_wp2
      exact ret_dl6 (g := w.heap.size) (s := nilV) rfl rfl rfl rfl HZ.out ⟨0, nilV, rfl, HBZ.out, fun h => absurd h (by decide)⟩
    by_cases hk3 : 3 < x0
    · rw [if_pos (Or.inr hk3)] at hE
      subst hE
      have HZ := hidden (DlIn.setAll HND.out 0 (.slice none 0 0))
      have HBZ := hidden ((HBD.out.setCell (p := ⟨w.heap.size, 0, none⟩) (Nat.le_refl w.heap.size) (.int .i64 0)).setCell (p := ⟨w.heap.size, 1, none⟩) (Nat.le_refl w.heap.size) (.slice none 0 0))
      go_wp2
      exact ret_dl6 (g := w.heap.size) (s := nilV) rfl rfl rfl rfl HZ.out ⟨0, nilV, rfl, HBZ.out, fun h => absurd h (by decide)⟩
    rw [if_neg (by omega)] at hE
    by_cases hz : (Z : Int) ≠ wd
    · rw [if_pos (Or.inl hz)] at hE
      subst hE
      have hne : ((Z : Int) != wd) = true := by simpa using hz
      clear hz k0 k1 kf
      go_upto_region 8 with (first
        | (go_at_call 35; (with_reducible refine (HW.out _).mono ?_); rintro e w2 ⟨rfl, hb2⟩; have HB2 := hidden (HBD.out.trans (hb2.mono HBD.out.size)); have HN2 := hidden (HCD.out w2 hb2); obtain ⟨k0, k1, kf⟩ := HN2.out; clear hb2)
        | fail)
      have HZ := hidden (DlIn.setAll HN2.out 0 (.slice none 0 0))
      have HBZ := hidden ((HB2.out.setCell (p := ⟨w.heap.size, 0, none⟩) (Nat.le_refl w.heap.size) (.int .i64 0)).setCell (p := ⟨w.heap.size, 1, none⟩) (Nat.le_refl w.heap.size) (.slice none 0 0))
      go_wp2
      exact ret_dl6 (g := w.heap.size) (s := nilV) rfl rfl rfl rfl HZ.out ⟨0, nilV, rfl, HBZ.out, fun h => absurd h (by decide)⟩
    have hne : ((Z : Int) != wd) = false := by simpa using hz
    by_cases h1M : x0 = 1 ∧ (M : Int) ≠ 0
    · rw [if_pos (Or.inr h1M)] at hE
      subst hE
      have he1 : (x0 == 1) = true := by simpa using h1M.1
      have heM : ((M : Int) != 0) = true := by simp; omega
      clear h1M k0 k1 kf
      go_upto_region 8 with (first
        | (go_at_call 35; (with_reducible refine (HW.out _).mono ?_); rintro e w2 ⟨rfl, hb2⟩; have HB2 := hidden (HBD.out.trans (hb2.mono HBD.out.size)); have HN2 := hidden (HCD.out w2 hb2); obtain ⟨k0, k1, kf⟩ := HN2.out; clear hb2)
        | fail)
      have HZ := hidden (DlIn.setAll HN2.out 0 (.slice none 0 0))
      have HBZ := hidden ((HB2.out.setCell (p := ⟨w.heap.size, 0, none⟩) (Nat.le_refl w.heap.size) (.int .i64 0)).setCell (p := ⟨w.heap.size, 1, none⟩) (Nat.le_refl w.heap.size) (.slice none 0 0))
      go_wp2
      exact ret_dl6 (g := w.heap.size) (s := nilV) rfl rfl rfl rfl HZ.out ⟨0, nilV, rfl, HBZ.out, fun h => absurd h (by decide)⟩
    rw [if_neg (fun h => h.elim (fun h => hz h) (fun h => h1M h))] at hE
    have hzd : (Z : Int) = wd := by omega
    have hwx := HWX.out
    have hcs : (Z = 0 ∧ x0 = 1) ∨ (Z = 4 ∧ x0 ≠ 1) := by
      by_cases h1 : x0 = 1
      · rw [if_pos (Or.inr h1)] at hwx
        exact Or.inl ⟨by omega, h1⟩
      · rw [if_neg (by omega)] at hwx
        exact Or.inr ⟨by omega, h1⟩
    have HCS := hidden hcs
    clear hz hzd hwx hcs
    have HE := hidden hE
    clear hE k0 k1 kf
    have hgo : ∀ (hM : ¬ (n - 4 = Z * M)), ((n : Int) - 4 != (Z : Int) * (M : Int)) = true := fun hM => by
      rw [HBM.eq, ← Int.natCast_mul]; simp; omega
    have hgo2 : ∀ (hM : n - 4 = Z * M), ((n : Int) - 4 != (Z : Int) * (M : Int)) = false := fun hM => by
      rw [HBM.eq, ← Int.natCast_mul]; simp; omega
    have HGO := hidden hgo
    have HGO2 := hidden hgo2
    clear hgo hgo2
    by_cases hx1 : x0 = 1
    · have hM0 : M = 0 := by
        by_cases h : M = 0
        · exact h
        · exact absurd ⟨hx1, by omega⟩ h1M
      have hZ0 : Z = 0 := by
        rcases HCS.out with h | h
        · exact h.1
        · exact absurd hx1 h.2
      have he1 : (x0 == 1) = true := by simpa using hx1
      have he1' : (x0 != 1) = false := by simpa using hx1
      have heM : ((M : Int) != 0) = false := by simp; omega
      have HX1 := hidden hx1
      have HM0 := hidden hM0
      have HZ0 := hidden hZ0
      clear h1M hM0 hZ0 hx1
      by_cases hlm : n - 4 = Z * M
      · have hl2 := HGO2.out hlm
        have hfin : E = if twiceW [] (spisL (xs.drop 4) Z M) = true then 9 else 0 := by
          have hE := HE.out
          rw [if_neg (by rw [HBM.eq, ← Int.natCast_mul]; omega), if_neg (fun h => h.1 HX1.out)] at hE
          simpa using hE
        have HFN := hidden hfin
        have HLM := hidden hlm
        clear hlm hfin
        go_wp2_with (first
        | (go_at_call 35; (with_reducible refine (HW.out _).mono ?_); rintro e w2 ⟨rfl, hb2⟩; have HB2 := hidden (HBD.out.trans (hb2.mono HBD.out.size)); have HN2 := hidden (HCD.out w2 hb2); have HBX := hidden hb2; obtain ⟨k0, k1, kf⟩ := HN2.out; clear hb2)
        | fail)
        go_meet
        case rel => exact ⟨Or.inl ⟨HZ0.out, HM0.out⟩, HLM.out, HFN.out, HBX.out⟩
      · have hl2 := HGO.out hlm
        have hE := HE.out
        rw [if_pos (by rw [HBM.eq, ← Int.natCast_mul]; omega)] at hE
        clear hlm HE
        subst hE
        go_upto_region 10 with (first
        | (go_at_call 35; (with_reducible refine (HW.out _).mono ?_); rintro e w2 ⟨rfl, hb2⟩; have HB2 := hidden (HBD.out.trans (hb2.mono HBD.out.size)); have HN2 := hidden (HCD.out w2 hb2); have HBX := hidden hb2; obtain ⟨k0, k1, kf⟩ := HN2.out; clear hb2)
        | fail)
        have HZ := hidden (DlIn.setAll HN2.out 0 (.slice none 0 0))
        have HBZ := hidden ((HB2.out.setCell (p := ⟨w.heap.size, 0, none⟩) (Nat.le_refl w.heap.size) (.int .i64 0)).setCell (p := ⟨w.heap.size, 1, none⟩) (Nat.le_refl w.heap.size) (.slice none 0 0))
        go_wp2
        exact ret_dl6 (g := w.heap.size) (s := nilV) rfl rfl rfl rfl HZ.out ⟨0, nilV, rfl, HBZ.out, fun h => absurd h (by decide)⟩
    · have hZ4 : Z = 4 := by
        rcases HCS.out with h | h
        · exact absurd h.2 hx1
        · exact h.1
      have he1 : (x0 == 1) = false := by simpa using hx1
      have he1' : (x0 != 1) = true := by simpa using hx1
      have HX1 := hidden hx1
      have HZ4 := hidden hZ4
      clear h1M hZ4 hx1
      by_cases hlm : n - 4 = Z * M
      · have hl2 := HGO2.out hlm
        have hE := HE.out
        rw [if_neg (by rw [HBM.eq, ← Int.natCast_mul]; omega)] at hE
        clear HE
        by_cases hM0 : M = 0
        · rw [if_pos ⟨HX1.out, by omega⟩] at hE
          have heM : ((M : Int) == 0) = true := by simp; omega
          clear hM0 hlm
          subst hE
          go_upto_region 12 with (first
        | (go_at_call 35; (with_reducible refine (HW.out _).mono ?_); rintro e w2 ⟨rfl, hb2⟩; have HB2 := hidden (HBD.out.trans (hb2.mono HBD.out.size)); have HN2 := hidden (HCD.out w2 hb2); have HBX := hidden hb2; obtain ⟨k0, k1, kf⟩ := HN2.out; clear hb2)
        | fail)
          have HZ := hidden (DlIn.setAll HN2.out 0 (.slice none 0 0))
          have HBZ := hidden ((HB2.out.setCell (p := ⟨w.heap.size, 0, none⟩) (Nat.le_refl w.heap.size) (.int .i64 0)).setCell (p := ⟨w.heap.size, 1, none⟩) (Nat.le_refl w.heap.size) (.slice none 0 0))
          go_wp2
          exact ret_dl6 (g := w.heap.size) (s := nilV) rfl rfl rfl rfl HZ.out ⟨0, nilV, rfl, HBZ.out, fun h => absurd h (by decide)⟩
        · rw [if_neg (by omega)] at hE
          have heM : ((M : Int) == 0) = false := by simp; omega
          have HFN := hidden (show E = if twiceW [] (spisL (xs.drop 4) Z M) = true then 9 else 0 by simpa using hE)
          have HLM := hidden hlm
          clear hM0 hlm hE
          go_wp2_with (first
        | (go_at_call 35; (with_reducible refine (HW.out _).mono ?_); rintro e w2 ⟨rfl, hb2⟩; have HB2 := hidden (HBD.out.trans (hb2.mono HBD.out.size)); have HN2 := hidden (HCD.out w2 hb2); have HBX := hidden hb2; obtain ⟨k0, k1, kf⟩ := HN2.out; clear hb2)
        | fail)
          go_meet
          case rel => exact ⟨Or.inr ⟨HZ4.out, HX1.out⟩, HLM.out, HFN.out, HBX.out⟩
      · have hl2 := HGO.out hlm
        have hE := HE.out
        rw [if_pos (by rw [HBM.eq, ← Int.natCast_mul]; omega)] at hE
        clear hlm HE
        subst hE
        go_upto_region 10 with (first
        | (go_at_call 35; (with_reducible refine (HW.out _).mono ?_); rintro e w2 ⟨rfl, hb2⟩; have HB2 := hidden (HBD.out.trans (hb2.mono HBD.out.size)); have HN2 := hidden (HCD.out w2 hb2); have HBX := hidden hb2; obtain ⟨k0, k1, kf⟩ := HN2.out; clear hb2)
        | fail)
        have HZ := hidden (DlIn.setAll HN2.out 0 (.slice none 0 0))
        have HBZ := hidden ((HB2.out.setCell (p := ⟨w.heap.size, 0, none⟩) (Nat.le_refl w.heap.size) (.int .i64 0)).setCell (p := ⟨w.heap.size, 1, none⟩) (Nat.le_refl w.heap.size) (.slice none 0 0))
        go_wp2
        exact ret_dl6 (g := w.heap.size) (s := nilV) rfl rfl rfl rfl HZ.out ⟨0, nilV, rfl, HBZ.out, fun h => absurd h (by decide)⟩
  case rest =>
    obtain ⟨hcs, hlm, HFN, hbc⟩ := hcut
    have HNC := hidden (HND.out.below hbc)
    have HBC := hidden (HBD.out.trans (hbc.mono HBD.out.size))
    have HCS := hidden hcs
    have HLM := Is.mk hlm
    have hRc := HNC.out.lt
    clear hcs hlm hbc k0 k1 kf HND HCD HW hE HWX HNO c0 c1
    go_upto_region 15 with fail
    have HDG := hidden (DlIn.new wc x0 42)
    have HRG := hidden (HNC.out.below ((Below.refl _ wc).alloc (Nat.le_refl _) (.cells #[.int .i64 x0, .slice none 0 0] 42)))
    have HBG := hidden (HBC.out.alloc HBC.out.size (.cells #[.int .i64 x0, .slice none 0 0] 42))
    have hgs0 : wc.heap.size < (wc.alloc (.cells #[.int .i64 x0, .slice none 0 0] 42)).heap.size := by simp
    generalize wc.alloc (.cells #[.int .i64 x0, .slice none 0 0] 42) = wg at *
    obtain ⟨g, hg⟩ : ∃ g, wc.heap.size = g := ⟨_, rfl⟩
    rw [hg] at HDG hgs0 hRc
    simp only [hg]
    clear hg HNC HBC
    have HB0 : Hid (Below g wg wg) := hidden (Below.refl _ _)
    have hgw : w.heap.size ≤ g := by omega
    go_wp2
    go_loopw [9] (fun v wr => ∃ (j : Nat) (l : List Sb) (s : Value), j ≤ M ∧ v = .int .i64 j ∧ l.length = j ∧ DlIn wr g x0 s ∧ RowG KSb NSb wr (g + 1) s l ∧ l.map Sb.xs = spisL (xs.drop 4) Z j ∧ Below g wg wr) (fun v _ => M - (intOf v).toNat)
    case atStart => exact ⟨0, [], _, by omega, rfl, rfl, HDG.out, RowG.nil _ _ _ _, rfl, HB0.out⟩
    case round =>
      obtain ⟨j, l, s, hj, rfl, hl, hdl, hrow, hxs, hbr⟩ := hrel
      have HDL := hidden hdl
      have HRW := hidden hrow
      have HBR := hidden hbr
      have HLJ := Is.mk hl
      have HXS := Is.mk hxs
      have hgr := hdl.lt
      have HPW := hidden (HBG.out.trans (hbr.mono (show w.heap.size ≤ g from hgw)))
      clear hdl hrow hbr hl hxs HDG HB0
      by_cases hlt : j < M
      · have hZ4 : Z = 4 := by
          rcases HCS.out with h | h
          · omega
          · exact h.1
        have hlm := HLM.eq
        obtain ⟨A, hA⟩ : ∃ A, j * Z = A := ⟨_, rfl⟩
        obtain ⟨B, hB⟩ : ∃ B, (j + 1) * Z = B := ⟨_, rfl⟩
        have hAB : B = A + Z := by rw [← hA, ← hB, Nat.add_mul, Nat.one_mul]
        have hA4 : A = j * 4 := by rw [← hA, hZ4]
        have hlm4 : n - 4 = 4 * M := by rw [hlm, hZ4]
        have hBn : 4 + B ≤ n := by omega
        have hlt' : (j : Int) < (M : Int) := by omega
        have hw1 : IntKind.i64.wrap ((j : Int) * (Z : Int)) = (A : Int) := by
          rw [show (j : Int) * (Z : Int) = (A : Int) from by rw [← hA, Int.natCast_mul]]
          exact wraps_i64 _ (by omega) (by omega)
        have hw2 : IntKind.i64.wrap ((j : Int) + 1) = (j : Int) + 1 := wraps_i64 _ (by omega) (by omega)
        have hw3 : IntKind.i64.wrap (((j : Int) + 1) * (Z : Int)) = (B : Int) := by
          rw [show ((j : Int) + 1) * (Z : Int) = (B : Int) from by rw [← hB, Int.natCast_mul]; rfl]
          exact wraps_i64 _ (by omega) (by omega)
        have hw4 : IntKind.i64.wrap (4 + (A : Int)) = 4 + (A : Int) := wraps_i64 _ (by omega) (by omega)
        have hw5 : IntKind.i64.wrap (4 + (B : Int)) = 4 + (B : Int) := wraps_i64 _ (by omega) (by omega)
        have g1 : (0 : Int) ≤ 4 + (A : Int) := by omega
        have g2 : (4 : Int) + (A : Int) ≤ 4 + (B : Int) := by omega
        have g3 : (4 : Int) + (B : Int) ≤ c := by omega
        have g4 : ((4 : Int) + (A : Int)).toNat = 4 + A := by omega
        have g5 : ((4 : Int) + (B : Int)).toNat = 4 + B := by omega
        have hsucc : spisL (xs.drop 4) Z (j + 1) = spisL (xs.drop 4) Z j ++ [((xs.drop 4).drop (j * Z)).take Z] := by simp [spisL, List.range_succ]
        obtain ⟨Y, hY⟩ : ∃ Y, ((xs.drop 4).drop (j * Z)).take Z = Y := ⟨_, rfl⟩
        rw [hY] at hsucc
        have HSU := Is.mk hsucc
        have HBRD := hidden (show Below wr.heap.size wr wr.drew from drew_below ⟨1, rfl⟩)
        have HQ := hidden ((HP.out wr.drew (HPW.out.trans (HBRD.out.mono HPW.out.size))).part (4 + A) (4 + B) (by omega) hBn)
        obtain ⟨bq, hbq⟩ : ∃ z, (if c = 4 + A then (some ⟨b, o, none⟩ : Option Addr) else some ⟨b, o + (4 + A), none⟩) = z := ⟨_, rfl⟩
        have hcont : (xs.take (4 + B)).drop (4 + A) = Y := by
          rw [List.drop_take, ← List.drop_drop, show 4 + B - (4 + A) = Z by omega, ← hA]
          exact hY
        rw [Option.map_some, WideShapes.add_plain, hbq, hcont] at HQ
        have hYl : Y.length = 4 + B - (4 + A) := by
          have := HQ.out.len
          omega
        have HYL := Is.mk hYl
        have HYR := hidden HQ.out.rng
        have HRD := hidden (HRW.out.below HBRD.out)
        have HDD := hidden (HDL.out.below HBRD.out)
        obtain ⟨d0, d1, df⟩ := HDD.out
        have hMb : M ≤ 65535 := by omega
        clear hY hsucc hcont hA hB hA4 hAB hlm4 hlm hZ4 hYl
        go_upto_region 17 with fail
        go_wp2_with fail
        refine region_C 15 (fun _ => True) (fun w' => w'.cell? ⟨g, 1, none⟩ = some s) (by kernel_rfl) trivial d1 ?_
        intro _ hS1
        refine anyC_take (i := 0) (v := ?_) rfl rfl (by decide) (by kernel_rfl) (by kernel_rfl) (by kernel_rfl) (fun _ _ _ h => h) (Or.inl ⟨by rfl, ?_⟩) trivial (fun _ => hS1) ?_
        rotate_left
        · intro w0 _; go_simp; (try with_reducible rfl)
        (try simp only [Act.put, List.getElem_toArray, List.getElem_cons_zero, List.getElem_cons_succ, List.setIfInBounds_toArray, List.set_cons_zero, List.set_cons_succ])
        refine anyC_take1 (i := 1) (v := ?_) rfl rfl (by decide) (by kernel_rfl) (by kernel_rfl) (by kernel_rfl) (by kernel_rfl) (by kernel_rfl) (fun _ _ _ h => h) (Or.inl ⟨by rfl, ?_⟩) trivial hS1 ?_
        rotate_left
        · rintro w0 ⟨-, t0⟩; go_simp; (try with_reducible rfl)
        (try simp only [Act.put, List.getElem_toArray, List.getElem_cons_zero, List.getElem_cons_succ, List.setIfInBounds_toArray, List.set_cons_zero, List.set_cons_succ])
        refine anyC_take (i := 2) (v := ?_) rfl rfl (by decide) (by kernel_rfl) (by kernel_rfl) (by kernel_rfl) (fun _ _ _ h => h) (Or.inl ⟨by rfl, ?_⟩) trivial (fun _ => hS1) ?_
        rotate_left
        · intro w0 _; go_simp; (try with_reducible rfl)
        (try simp only [Act.put, List.getElem_toArray, List.getElem_cons_zero, List.getElem_cons_succ, List.setIfInBounds_toArray, List.set_cons_zero, List.set_cons_succ])
        refine anyC_take (i := 3) (v := ?_) rfl rfl (by decide) (by kernel_rfl) (by kernel_rfl) (by kernel_rfl) (fun _ _ _ h => h) (Or.inl ⟨by rfl, ?_⟩) trivial (fun _ => hS1) ?_
        rotate_left
        · intro w0 _; go_simp; (try with_reducible rfl)
        (try simp only [Act.put, List.getElem_toArray, List.getElem_cons_zero, List.getElem_cons_succ, List.setIfInBounds_toArray, List.set_cons_zero, List.set_cons_succ])
        refine anyC_take (i := 4) (v := ?_) rfl rfl (by decide) (by kernel_rfl) (by kernel_rfl) (by kernel_rfl) (fun _ _ _ h => h) (Or.inl ⟨by rfl, ?_⟩) trivial (fun _ => hS1) ?_
        rotate_left
        · intro w0 _; go_simp; (try with_reducible rfl)
        (try simp only [Act.put, List.getElem_toArray, List.getElem_cons_zero, List.getElem_cons_succ, List.setIfInBounds_toArray, List.set_cons_zero, List.set_cons_succ])
        refine anyC_take (i := 5) (v := ?_) rfl rfl (by decide) (by kernel_rfl) (by kernel_rfl) (by kernel_rfl) (fun _ _ _ h => h) (Or.inl ⟨by rfl, ?_⟩) trivial (fun _ => hS1) ?_
        rotate_left
        · intro w0 _; go_simp; (try with_reducible rfl)
        (try simp only [Act.put, List.getElem_toArray, List.getElem_cons_zero, List.getElem_cons_succ, List.setIfInBounds_toArray, List.set_cons_zero, List.set_cons_succ])
        refine anyC_take (i := 6) (v := ?_) rfl rfl (by decide) (by kernel_rfl) (by kernel_rfl) (by kernel_rfl) (fun _ _ _ h => h) (Or.inl ⟨by rfl, ?_⟩) trivial (fun _ => hS1) ?_
        rotate_left
        · intro w0 _; go_simp; (try with_reducible rfl)
        (try simp only [Act.put, List.getElem_toArray, List.getElem_cons_zero, List.getElem_cons_succ, List.setIfInBounds_toArray, List.set_cons_zero, List.set_cons_succ])
        refine anyC_take (i := 7) (v := ?_) rfl rfl (by decide) (by kernel_rfl) (by kernel_rfl) (by kernel_rfl) (fun _ _ _ h => h) (Or.inl ⟨by rfl, ?_⟩) trivial (fun _ => hS1) ?_
        rotate_left
        · intro w0 _; go_simp; (try with_reducible rfl)
        (try simp only [Act.put, List.getElem_toArray, List.getElem_cons_zero, List.getElem_cons_succ, List.setIfInBounds_toArray, List.set_cons_zero, List.set_cons_succ])
        refine anyC_take (i := 8) (v := ?_) rfl rfl (by decide) (by kernel_rfl) (by kernel_rfl) (by kernel_rfl) (fun _ _ _ h => h) (Or.inl ⟨by rfl, ?_⟩) trivial (fun _ => hS1) ?_
        rotate_left
        · intro w0 _; go_simp; (try with_reducible rfl)
        (try simp only [Act.put, List.getElem_toArray, List.getElem_cons_zero, List.getElem_cons_succ, List.setIfInBounds_toArray, List.set_cons_zero, List.set_cons_succ])
        refine anyC_take (i := 9) (v := ?_) rfl rfl (by decide) (by kernel_rfl) (by kernel_rfl) (by kernel_rfl) (fun _ _ _ h => h) (Or.inl ⟨by rfl, ?_⟩) trivial (fun _ => hS1) ?_
        rotate_left
        · intro w0 _; go_simp; (try with_reducible rfl)
        (try simp only [Act.put, List.getElem_toArray, List.getElem_cons_zero, List.getElem_cons_succ, List.setIfInBounds_toArray, List.set_cons_zero, List.set_cons_succ])
        refine anyC_take (i := 10) (v := ?_) rfl rfl (by decide) (by kernel_rfl) (by kernel_rfl) (by kernel_rfl) (fun _ _ _ h => h) (Or.inl ⟨by rfl, ?_⟩) trivial (fun _ => hS1) ?_
        rotate_left
        · intro w0 _; go_simp; (try with_reducible rfl)
        (try simp only [Act.put, List.getElem_toArray, List.getElem_cons_zero, List.getElem_cons_succ, List.setIfInBounds_toArray, List.set_cons_zero, List.set_cons_succ])
        refine anyC_take (i := 11) (v := ?_) rfl rfl (by decide) (by kernel_rfl) (by kernel_rfl) (by kernel_rfl) (fun _ _ _ h => h) (Or.inl ⟨by rfl, ?_⟩) trivial (fun _ => hS1) ?_
        rotate_left
        · intro w0 _; go_simp; (try with_reducible rfl)
        (try simp only [Act.put, List.getElem_toArray, List.getElem_cons_zero, List.getElem_cons_succ, List.setIfInBounds_toArray, List.set_cons_zero, List.set_cons_succ])
        refine anyC_take (i := 12) (v := ?_) rfl rfl (by decide) (by kernel_rfl) (by kernel_rfl) (by kernel_rfl) (fun _ _ _ h => h) (Or.inl ⟨by rfl, ?_⟩) trivial (fun _ => hS1) ?_
        rotate_left
        · intro w0 _; go_simp; (try with_reducible rfl)
        (try simp only [Act.put, List.getElem_toArray, List.getElem_cons_zero, List.getElem_cons_succ, List.setIfInBounds_toArray, List.set_cons_zero, List.set_cons_succ])
        refine anyC_one (i := 13) (by kernel_rfl) rfl (fun K hK => ?_)
        refine step_append_byt _ (by kernel_rfl) _ _ 22 (by rfl) (g + 1) 5 i0 (.int .u8 0) Tryz.underlying22 hi0 hz0 hz1 hz2 rfl _ _ (by rfl) (Own.nil _ _ _) _ _ _ _ _ (by rfl) HQ.out (by rfl) (by simp; omega) (by simp; omega) ?_
        intro u6 w6 ho6 hg6
        obtain ⟨p6, c6, rfl, hbod⟩ := Own.bod ho6 (n := 4 + B - (4 + A)) (by simp [HYL.eq]) (by simpa using HYR.out)
        have hb6 := grownNil_below hg6
        have HO6 := hidden hbod
        have HR6 := hidden (HRD.out.below hb6)
        have HD6 := hidden (HDD.out.below hb6)
        have HB6 := hidden (HBRD.out.trans (hb6.mono HBRD.out.size))
        have hs6 := HD6.out.lt
        have hd6 := HD6.out.c1
        clear d0 d1 df ho6 hg6 hbod hb6 hS1
        refine hK.out _ _ trivial (fun _ => hd6) ?_
        clear hK K
        (try simp only [Act.put, List.getElem_toArray, List.getElem_cons_zero, List.getElem_cons_succ, List.setIfInBounds_toArray, List.set_cons_zero, List.set_cons_succ])
        refine anyC_one (i := 14) (by kernel_rfl) rfl (fun K hK => ?_)
        go_simp
        refine hK.out _ _ trivial (fun _ => cell_below ((Below.refl _ _).alloc (Nat.le_refl _) _) _ _ hd6) ?_
        clear hK K
        (try simp only [Act.put, List.getElem_toArray, List.getElem_cons_zero, List.getElem_cons_succ, List.setIfInBounds_toArray, List.set_cons_zero, List.set_cons_succ])
        refine anyC_one (i := 15) (by kernel_rfl) rfl (fun K hK => ?_)
        refine step_append_g knownSb (by simp [NSb, KSb]) _ (by kernel_rfl) _ _ (by rfl) (g + 1) _ l (by rfl) (HR6.out.alloc _) _ 1 1 [⟨p6, 4 + B - (4 + A), c6, [] ++ Y⟩] (by rfl) (srcSb w6 ⟨p6, 4 + B - (4 + A), c6, [] ++ Y⟩ _) (fun x hx => by rw [List.mem_singleton.1 hx]; exact HO6.out.alloc _) (by rw [HLJ.eq]; unfold maxLen; omega) (by rw [HLJ.eq]; omega) (by simp; omega) ?_
        intro v7 w7 hr7 hg7
        obtain ⟨p7, c7, rfl⟩ := hr7.form (n := j + 1) (by simp [HLJ.eq])
        have hown : ∀ k, s.ownBlock = some k → g + 1 ≤ k := fun k hk => (HR6.out.lt k hk).1
        have hd7 := (HD6.out.below ((Below.refl _ _).alloc (Nat.le_refl _) (.cells #[.slice p6 (4 + B - (4 + A)) c6] 22))).grown hg7 (fun e => by have := hown g e.symm; omega)
        have HD7 := hidden hd7
        have hgb : Below g wg (w7.setCell ⟨g, 1, none⟩ (.slice p7 (j + 1) c7)) := by
          have h0 := HB6.out.alloc HB6.out.size (.cells #[.slice p6 (4 + B - (4 + A)) c6] 22)
          have h1 := HBR.out.trans (h0.mono (show g ≤ wr.heap.size by omega))
          exact (h1.grown hg7 (by have := h0.size; omega) (fun k hk => by have := hown k hk; omega)).setCell (p := ⟨g, 1, none⟩) (Nat.le_refl g) _
        have hrw := hr7.low (grown_set w7 g 1 (.slice p7 (j + 1) c7)) (Nat.lt_succ_self g)
        have hdl := HD7.out.setV (.slice p7 (j + 1) c7)
        have HGB := hidden hgb
        have HRW2 := hidden hrw
        have HDL2 := hidden hdl
        clear hgb hrw hdl hr7 hg7 hown hd6
        obtain ⟨f0, f1, ff⟩ := hd7
        refine hK.out _ _ trivial (fun h => nomatch (h.symm.trans (by kernel_rfl) : false = true)) ?_
        clear hK K
        (try simp only [Act.put, List.getElem_toArray, List.getElem_cons_zero, List.getElem_cons_succ, List.setIfInBounds_toArray, List.set_cons_zero, List.set_cons_succ])
        refine anyC_take (i := 16) (v := ?_) rfl rfl (by decide) (by kernel_rfl) (by kernel_rfl) (by kernel_rfl) (fun _ _ _ h => h) (Or.inl ⟨by rfl, ?_⟩) trivial (fun h => nomatch (h.symm.trans (by kernel_rfl) : false = true)) ?_
        rotate_left
        · intro w0 _; go_simp; (try with_reducible rfl)
        (try simp only [Act.put, List.getElem_toArray, List.getElem_cons_zero, List.getElem_cons_succ, List.setIfInBounds_toArray, List.set_cons_zero, List.set_cons_succ])
        refine anyC_one (i := 17) (by kernel_rfl) rfl (fun K hK => ?_)
        go_simp
        refine hK.out _ _ trivial (fun h => nomatch (h.symm.trans (by kernel_rfl) : false = true)) ?_
        clear hK K f0 f1 ff
        (try simp only [Act.put, List.getElem_toArray, List.getElem_cons_zero, List.getElem_cons_succ, List.setIfInBounds_toArray, List.set_cons_zero, List.set_cons_succ])
        refine anyC_done (by kernel_rfl) ?_ _
        go_wp2
        go_roundw
        case rel => exact ⟨j + 1, l ++ [⟨p6, 4 + B - (4 + A), c6, [] ++ Y⟩], .slice p7 (j + 1) c7, by omega, by go_num, by simp [HLJ.eq], HDL2.out, HRW2.out, by rw [List.map_append, HSU.eq, HXS.eq]; rfl, HGB.out⟩
        case measure => simp [intOf]; omega
      · have hge : ¬ (j : Int) < (M : Int) := by omega
        have hjM : j = M := by omega
        obtain ⟨ps, cs, rfl, hrd⟩ := HRW.out.sbs HLJ.eq
        have hcs4 : (Z = 0 ∧ M = 0) ∨ Z = 4 := by
          rcases HCS.out with h | h
          · exact Or.inl h
          · exact Or.inr h.1
        have hxs2 : l.map Sb.xs = spisL (xs.drop 4) Z M := by rw [← hjM]; exact HXS.eq
        have hdup := twiceW_dup (l.map Sb.xs) (by rw [hxs2]; exact spisL_four _ Z M hcs4 (by rw [List.length_drop, hlen]; exact HLM.eq)) (fun y hy => by
          obtain ⟨x, hx, rfl⟩ := List.mem_map.1 hy
          exact (hrd.ok x hx).rng)
        have HTW := hidden (rtwice_any ps j cs l wr hrd)
        have HRR := hidden (HRG.out.belowB HBR.out (show w.heap.size < g from by omega))
        have HFE := HFN.out
        rw [← hxs2] at HFE
        have HX2 := Is.mk hxs2
        have HRb := hidden (HPW.out)
        clear hxs2 hcs4 hrd hjM
        obtain ⟨e0, e1, ef⟩ := HDL.out
        by_cases hd : Dup (l.map Sb.xs)
        · rw [if_pos (hdup.2 hd)] at HFE
          subst HFE
          have HD := hidden hd
          clear hdup hd
          go_upto_region 19 with (first
            | (go_at_call 56; (with_reducible refine (HTW.out).mono ?_); rintro e w5 ⟨r, rfl, hr, hb5⟩; obtain rfl : r = true := hr.2 HD.out; have HR5 := hidden (HRR.out.below hb5); have HB5 := hidden (HRb.out.trans (hb5.mono HRb.out.size)); obtain ⟨k0, k1, kf⟩ := HR5.out; clear hb5 hr)
            | fail)
          have HZ := hidden (DlIn.setAll HR5.out 0 (.slice none 0 0))
          have HBZ := hidden ((HB5.out.setCell (p := ⟨w.heap.size, 0, none⟩) (Nat.le_refl w.heap.size) (.int .i64 0)).setCell (p := ⟨w.heap.size, 1, none⟩) (Nat.le_refl w.heap.size) (.slice none 0 0))
          go_wp2
          exact ret_dl6 (g := w.heap.size) (s := nilV) rfl rfl rfl rfl HZ.out ⟨0, nilV, rfl, HBZ.out, fun h => absurd h (by decide)⟩
        · rw [if_neg (fun h => hd (hdup.1 h))] at HFE
          subst HFE
          have HD := hidden hd
          clear hdup hd
          go_upto_region 20 with (first
            | (go_at_call 56; (with_reducible refine (HTW.out).mono ?_); rintro e w5 ⟨r, rfl, hr, hb5⟩; obtain rfl : r = false := (by cases r; rfl; exact absurd (hr.1 rfl) HD.out); have HR5 := hidden (HRR.out.below hb5); have HD5 := hidden (HDL.out.below hb5); have HW5 := hidden (HRW.out.below hb5); have HB5 := hidden (HRb.out.trans (hb5.mono HRb.out.size)); obtain ⟨k0, k1, kf⟩ := HR5.out; obtain ⟨d0, d1, df⟩ := HD5.out; clear hb5 hr)
            | fail)
          have HZ := hidden (DlIn.setAll HR5.out x0 (.slice ps j cs))
          have HBZ := hidden ((HB5.out.setCell (p := ⟨w.heap.size, 0, none⟩) (Nat.le_refl w.heap.size) (.int .i64 x0)).setCell (p := ⟨w.heap.size, 1, none⟩) (Nat.le_refl w.heap.size) (.slice ps j cs))
          have HWZ := hidden ((HW5.out.low (grown_trans (grown_set w5 w.heap.size 0 (.int .i64 x0)) (grown_set _ w.heap.size 1 (.slice ps j cs))) (show w.heap.size < g + 1 by omega)).mono (show w.heap.size ≤ g + 1 by omega))
          have hne : ¬ g = w.heap.size := by omega
          go_wp2
          exact ret_dl6 (g := w.heap.size) (s := ⟨ps, j, cs⟩) rfl rfl rfl rfl HZ.out ⟨x0, ⟨ps, j, cs⟩, rfl, HBZ.out, fun _ => ⟨HE0.eq.symm, l, HWZ.out, by rw [HE1.eq, HET.eq]; simpa using HX2.eq, HLJ.eq⟩⟩
end Go.Proofs.YtbpmanbpmlkmnaaGreatDoor
