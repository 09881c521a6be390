/-
  The law Poly1305Sums, walked: it returns true for every input, and only adds memory of its own.
-/
import Derived.Test.YtnbpangegegccaaPoly11
import Derived.Test.YtnbpangegegccaaMkOwn
import Derived.Test.YtnbpangegegccaaCodes2
import Derived.Test.YtnbpangegegccaaRCompare
import Derived.Deep.Cut
import Derived.Deep.CutRange
namespace Go.Proofs.Ytnbpangegegccaa
open Go.RowKit
set_option linter.unusedVariables false

theorem setRng (l : List Int) (h : ∀ x ∈ l, 0 ≤ x ∧ x ≤ 255) (j : Nat) : ∀ x ∈ l.set j 255, 0 ≤ x ∧ x ≤ 255 := fun x hx => by
  rcases List.mem_or_eq_of_mem_set hx with hx | rfl
  · exact h x hx
  · omega

theorem Own.keptNe {w w' : World} {base : Nat} {e : TypeId} {v : Value} {xs : List Int} {k : Nat} (h : Own w base e v xs) (hg : w.grownBy w' (some k)) (hne : v.ownBlock ≠ some k) : Own w' base e v xs :=
  World.ownsRow.kept h hg (Or.inr hne)
/-- The two rows that are changed. -/
structure SmI (w w3 wr : World) (gk ck : Nat) (q : Option Addr) (n d : Nat) (K Y : List Int) : Prop where
  k : Own wr w.heap.size 5 (.slice (some ⟨gk, 0, none⟩) 32 ck) K
  y : Own wr w3.heap.size 5 (.slice q n d) Y
  kl : K.length = 32
  yl : Y.length = n
  kr : ∀ x ∈ K, 0 ≤ x ∧ x ≤ 255
  yr : ∀ x ∈ Y, 0 ≤ x ∧ x ≤ 255
  bel : Below w.heap.size w wr
theorem SmI.setY {w w3 wr : World} {gk ck : Nat} {g n d : Nat} {K Y : List Int} (h : SmI w w3 wr gk ck (some ⟨g, 0, none⟩) n d K Y) (hk : gk < w3.heap.size) (hw : w.heap.size ≤ w3.heap.size) (j : Nat) :
    SmI w w3 (wr.setCell ⟨g, j, none⟩ (.int .u8 255)) gk ck (some ⟨g, 0, none⟩) n d K (Y.set j 255) := by
  have hg := (h.y.lt g rfl).1
  exact ⟨h.k.keptNe (grown_set _ _ _ _) (by simp [Value.ownBlock]; omega), h.y.set h.yl j 255, h.kl, by rw [List.length_set, h.yl], h.kr, setRng _ h.yr j, h.bel.setCell (by simp; omega) _⟩
theorem SmI.setK {w w3 wr : World} {gk ck : Nat} {q : Option Addr} {n d : Nat} {K Y : List Int} (h : SmI w w3 wr gk ck q n d K Y) (hk : gk < w3.heap.size) (hw : w.heap.size ≤ gk) (j : Nat) :
    SmI w w3 (wr.setCell ⟨gk, j, none⟩ (.int .u8 255)) gk ck q n d (K.set j 255) Y := by
  refine ⟨h.k.set h.kl j 255, h.y.keptNe (grown_set _ _ _ _) (fun e => ?_), by rw [List.length_set, h.kl], h.yl, setRng _ h.kr j, h.yr, h.bel.setCell (by simp; omega) _⟩
  have := (h.y.lt gk e).1
  omega
theorem SmI.cellK {w w3 wr : World} {gk ck : Nat} {q : Option Addr} {n d : Nat} {K Y : List Int} (h : SmI w w3 wr gk ck q n d K Y) : (∀ j, j < 32 → wr.cell? ⟨gk, j, none⟩ = some (.int .u8 (K.getD j 0))) ∧ ∀ j, wr.frozen? ⟨gk, j, none⟩ = false := by
  obtain ⟨g', c', e, -, -, hc, hf⟩ := h.k.at_ h.kl (by omega)
  cases e
  exact ⟨hc, hf⟩

set_option maxHeartbeats 3200000 in
set_option maxRecDepth 100000 in
theorem poly1305Sums_walk (p0 : Option Addr) (n0 c0 : Nat) (xs0 : List Int) (p1 : Option Addr) (n1 c1 : Nat) (xs1 : List Int) (p2 : Option Addr) (n2 c2 : Nat) (xs2 : List Int) (z : Int) (w : World) (h0 : Byt w p0 n0 c0 xs0) (r0 : c0 ≤ 140737488351232) (h1 : Byt w p1 n1 c1 xs1) (r1 : c1 ≤ 140737488351232) (h2 : Byt w p2 n2 c2 xs2) (r2 : c2 ≤ 140737488351232) (g3 : 0 ≤ z ∧ z ≤ 255) :
    Calls Try.prog 3 #[.slice p0 n0 c0, .slice p1 n1 c1, .slice p2 n2 c2, .int .u8 z] w fun e w' => e = .returned (.bool true) ∧ Below w.heap.size w w' := by
  have HA := hidden (awake11_any w)
  have H0 := hidden (fun W (hW : Below w.heap.size w W) => h0.below hW)
  have H1 := hidden h1
  have H2 := hidden h2
  have hc1 := h1.cap
  have hbig := h1.big
  obtain ⟨i0, hi, hz0, hz1, hz2⟩ := info_parts Try.infoByte
  clear h0 h1 h2
  go_enter Try.func3, Try.ntmps3
  go_upto_if 24 with (first
    | (go_at_call 7; (with_reducible refine (HA.out).mono ?_); rintro e w1 ⟨rfl, hb⟩; have HB1 := hidden hb; clear hb)
    | fail)
  go_cut [1] from 22 to 26 (fun a wx => ∃ q k d b, a = .slice q k d ∧ k ≤ 600 ∧ Hid (Byt w q k d b) ∧ w1 = wx)
  case first =>
    by_cases hlt : n1 ≤ 600
    · have hle : ¬ (600 : Int) < (n1 : Int) := by omega
      go_wp2
      go_meet
      case rel => exact ⟨p1, n1, c1, xs1, rfl, hlt, H1, rfl⟩
    · have hle : (600 : Int) < (n1 : Int) := by omega
      have hl2 : (600 : Int) ≤ (c1 : Int) := by omega
      have HF := hidden (H1.out.front 600 (by omega))
      go_wp2
      go_meet
      case rel => exact ⟨p1, 600, c1, _, rfl, by omega, HF, rfl⟩
  case rest =>
    obtain ⟨pb, nb, cb, b, rfl, hnb, HBB, rfl⟩ := hcut
    have HB0 := hidden (fun W (hW : Below w.heap.size w W) => HBB.out.below hW)
    have HBR := hidden HBB.out.rng
    have HBLN := Is.mk HBB.out.len
    clear HBB H1
    go_wp2_with (first
      | (go_at_call 8; (refine (new_any w p2 n2 c2 xs2 w1 H2.out HB1.out 60 (by omega)).mono ?_); rintro e w2 ⟨rfl, hc, hb⟩; have HC2 := hidden hc; have HB2 := hidden (HB1.out.trans (hb.mono HB1.out.size)); clear hc hb)
      | (go_at_call 9; (refine (mbytes_own w w2 _ HC2.out 32 (by omega)).mono ?_); rintro e w3 ⟨v3, ys, rfl, hyl, hyr, hown, hc, hg⟩; have HO3 := hidden (hown.mono HB2.out.size); have HYL := Is.mk hyl; have HYR := hidden hyr; have HB3 := hidden (HB2.out.grown hg HB2.out.size (fun k e => by cases e; exact HC2.out.base)); clear hc hg hown hyl hyr; obtain ⟨gk, ck, rfl, hgk0, hgk1, -, -⟩ := HO3.out.at_ (n := 32) HYL.eq (by omega))
      | (at_builtin; refine wpList_append_byt _ rfl (.const (.slice none 0 0)) (.tmp 31) 22 rfl w3.heap.size 5 i0 (.int .u8 0) Try.underlying22 hi hz0 hz1 hz2 rfl _ _ rfl (Own.nil _ w3.heap.size 5) _ _ _ _ _ rfl (HB0.out w3 HB3.out) rfl ?b1 (Nat.le_refl _) ?_)
      | fail)
    case b1 => simp; omega
    intro v4 w4 hown hg
    obtain ⟨q, d, rfl, -⟩ := hown.bytN (N := nb) rfl HBLN.eq HBR.out
    have HSM0 : Hid (SmI w w3 w4 gk ck q nb d ys b) := hidden ⟨HO3.out.below ((Below.refl w3.heap.size w3).grown hg (Nat.le_refl _) (nob _)), hown, HYL.eq, HBLN.eq, HYR.out, HBR.out, HB3.out.grown hg HB3.out.size (nob _)⟩
    have hw3 : w.heap.size ≤ w3.heap.size := HB3.out.size
    clear hown hg HO3 HB3 HB2 HC2 HYL HYR
    go_wp2
    go_loopw [35] (fun i wr => ∃ (j : Nat) (Y : List Int), j ≤ nb ∧ i = .int .i64 j ∧ SmI w w3 wr gk ck q nb d ys Y) (fun i _ => nb - (intOf i).toNat)
    case atStart => exact ⟨0, b, by omega, rfl, HSM0.out⟩
    case round =>
      clear HSM0
      obtain ⟨j, Y, hj, rfl, hi⟩ := hrel
      have HI := hidden hi
      clear hi
      by_cases hlt : j < nb
      · obtain ⟨g, c', e', -, -, hc, hf⟩ := HI.out.y.at_ HI.out.yl (by omega)
        cases e'
        have hx := hc j hlt
        have hfx := hf j
        have HN := hidden (HI.out.setY hgk1 hw3 j)
        have b0 : (j : Int) < (nb : Int) := by omega
        have b1 : (0 : Int) ≤ (j : Int) := by omega
        have hcap : nb ≤ d := by have := HI.out.y.bytN rfl HI.out.yl HI.out.yr; obtain ⟨_, _, e, hb⟩ := this; cases e; exact hb.cap
        clear hc hf
        go_wp2
        all_goals
          go_roundw
          case rel => first
            | exact ⟨j + 1, _, by omega, by go_num, HN.out⟩
            | exact ⟨j + 1, Y, by omega, by go_num, HI.out⟩
          case measure => simp [intOf]; omega
      · have hje : j = nb := by omega
        have hge : ¬ (j : Int) < (nb : Int) := by omega
        clear hje
        go_wp2
        rename World => wo
        go_loopw [47] (fun i wr => ∃ (j : Nat) (K : List Int), j ≤ 32 ∧ i = .int .i64 j ∧ SmI w w3 wr gk ck q nb d K Y) (fun i _ => 32 - (intOf i).toNat)
        case atStart => exact ⟨0, ys, by omega, rfl, HI.out⟩
        case round =>
          clear HI
          obtain ⟨j, K, hj, rfl, hi⟩ := hrel
          have HI := hidden hi
          clear hi
          by_cases hlt : j < 32
          · obtain ⟨hc, hf⟩ := HI.out.cellK
            have hx := hc j hlt
            have hfx := hf j
            have HN := hidden (HI.out.setK hgk1 hgk0 j)
            have b0 : (j : Int) < 32 := by omega
            have b1 : (0 : Int) ≤ (j : Int) := by omega
            clear hc hf
            go_wp2
            all_goals
              go_roundw
              case rel => first
                | exact ⟨j + 1, _, by omega, by go_num, HN.out⟩
                | exact ⟨j + 1, K, by omega, by go_num, HI.out⟩
              case measure => simp [intOf]; omega
          · have hge32 : ¬ (j : Int) < 32 := by omega
            have HKB : Hid (Byt wr (some ⟨gk, 0, none⟩) 32 ck K) := by
              obtain ⟨p', c', e', hb'⟩ := HI.out.k.bytN (N := 32) rfl HI.out.kl HI.out.kr
              cases e'
              exact hidden hb'
            have HYB : Hid (Byt wr q nb d Y) := by
              obtain ⟨p', c', e', hb'⟩ := HI.out.y.bytN (N := nb) rfl HI.out.yl HI.out.yr
              cases e'
              exact hidden hb'
            have HXB := hidden (H0.out wr HI.out.bel)
            have HBB := hidden (HB0.out wr HI.out.bel)
            have HBE := hidden HI.out.bel
            clear HI hlt H0 HB0
            go_wp2
            obtain ⟨gP, hgP⟩ : ∃ gP, wr.heap.size = gP := ⟨_, rfl⟩
            generalize hW0 : wr.alloc (.cells _ 27) = W0
            have hcell := heap_alloc_new wr (.cells #[.slice p0 n0 c0, .slice pb nb cb, .slice (some ⟨gk, 0, none⟩) 32 ck, .slice pb nb cb, .slice (some ⟨gk, 0, none⟩) 32 ck, .slice q nb d] 27)
            rw [hW0, hgP] at hcell
            have HP0 : Hid (W0.cell? ⟨gP, 0, none⟩ = some (.slice p0 n0 c0)) := by show _ = _; rw [cell_of_row W0 _ _ _ _ _ hcell]; rfl
            have HP1 : Hid (W0.cell? ⟨gP, 1, none⟩ = some (.slice pb nb cb)) := by show _ = _; rw [cell_of_row W0 _ _ _ _ _ hcell]; rfl
            have HP2 : Hid (W0.cell? ⟨gP, 2, none⟩ = some (.slice (some ⟨gk, 0, none⟩) 32 ck)) := by show _ = _; rw [cell_of_row W0 _ _ _ _ _ hcell]; rfl
            have HP3 : Hid (W0.cell? ⟨gP, 3, none⟩ = some (.slice pb nb cb)) := by show _ = _; rw [cell_of_row W0 _ _ _ _ _ hcell]; rfl
            have HP4 : Hid (W0.cell? ⟨gP, 4, none⟩ = some (.slice (some ⟨gk, 0, none⟩) 32 ck)) := by show _ = _; rw [cell_of_row W0 _ _ _ _ _ hcell]; rfl
            have HP5 : Hid (W0.cell? ⟨gP, 5, none⟩ = some (.slice q nb d)) := by show _ = _; rw [cell_of_row W0 _ _ _ _ _ hcell]; rfl
            have hW0b : Below wr.heap.size wr W0 := by rw [← hW0]; exact (Below.refl _ wr).alloc (Nat.le_refl _) _
            have HXB2 := hidden (HXB.out.below hW0b)
            have HBB2 := hidden (HBB.out.below hW0b)
            have HKB2 := hidden (HKB.out.below hW0b)
            have HYB2 := hidden (HYB.out.below hW0b)
            have HBE2 := hidden (HBE.out.trans (hW0b.mono HBE.out.size))
            simp only [hgP]
            clear HXB HBB HKB HYB HBE hW0b hcell hW0 hgP
            have HXB := HXB2
            have HBB := HBB2
            have HKB := HKB2
            have HYB := HYB2
            have HBE := HBE2
            clear HXB2 HBB2 HKB2 HYB2 HBE2
            have HR0 := hidden (Below.refl W0.heap.size W0)
            go_loopw [68] (fun i wr => ∃ j : Nat, j ≤ 3 ∧ i = .int .i64 j ∧ Below W0.heap.size W0 wr) (fun i _ => 3 - (intOf i).toNat)
            case atStart => exact ⟨0, by omega, rfl, HR0.out⟩
            case round =>
              clear HR0
              obtain ⟨j, hj, rfl, hb⟩ := hrel
              rename World => wr2
              have HBW := hidden hb
              clear hb
              have hcases : j = 0 ∨ j = 1 ∨ j = 2 ∨ j = 3 := by omega
              rcases hcases with rfl | rfl | rfl | hj3
              · have x0 : wr2.cell? ⟨gP, 0, none⟩ = some (.slice p0 n0 c0) := cell_below HBW.out _ _ (HP0.out)
                have x1 : wr2.cell? ⟨gP, 1, none⟩ = some (.slice pb nb cb) := cell_below HBW.out _ _ (HP1.out)
                have HS1 := hidden (fun W (hW : Below W0.heap.size W0 W) => psum_any p0 pb n0 c0 nb cb xs0 b W (HXB.out.below hW) (HBB.out.below hW) (by omega))
                have HS2 := hidden (fun W (hW : Below W0.heap.size W0 W) => rsum_any p0 pb n0 c0 nb cb xs0 b W (HXB.out.below hW) (HBB.out.below hW) (by omega))
                have HSR := hidden (sumL_rng xs0 b)
                generalize sumL xs0 b = T at *
                obtain ⟨m, hm⟩ : ∃ m, T.length = m := ⟨_, rfl⟩
                have HM := Is.mk hm
                obtain ⟨β, hβ⟩ : ∃ β, decide ((n0 : Nat) = 32) = β := ⟨_, rfl⟩
                rw [hβ] at HS1 HS2
                have hbb : (β != β) = false := by simp
                clear hm hβ
                go_wp2_with (first
                  | (go_at_call 10; (with_reducible refine (HS1.out _ (HBW.out.alloc HBW.out.size _)).mono ?_); rintro e6 w6 ⟨v6, rfl, ho, hb⟩; have HB6 := hidden ((HBW.out.alloc HBW.out.size _).trans (hb.mono (by have := HBW.out.size; simp; omega))); obtain ⟨q6, d6, rfl, hbyt⟩ := ho.bytN (N := m) rfl HM.eq HSR.out; have HT6 := hidden hbyt; have HZ6 := hidden (cell_below hb ⟨wr2.heap.size, 0, none⟩ (.slice p0 n0 c0) (by go_simp)); have HZ7 := hidden (cell_below hb ⟨wr2.heap.size, 1, none⟩ (.slice pb nb cb) (by go_simp)); have z6 := HZ6.out; have z7 := HZ7.out; clear ho hb hbyt)
                  | (go_at_call 11; (with_reducible refine (HS2.out w6 HB6.out).mono ?_); rintro e7 w7 ⟨v7, rfl, ho, hb⟩; have HB7 := hidden (HB6.out.trans (hb.mono HB6.out.size)); obtain ⟨q7, d7, rfl, hbyt⟩ := ho.bytN (N := m) rfl HM.eq HSR.out; have HT7 := hidden (HT6.out.below hb); have HU7 := hidden hbyt; clear ho hb hbyt)
                  | (go_at_call 12; (with_reducible refine (requal_any q6 q7 m d6 m d7 T T w7 HT7.out HU7.out).mono ?_); rintro e8 w8 ⟨rfl, r8, rfl⟩; have HB8 := hidden (HB7.out.trans (below_drewN (B := W0.heap.size) (w := w7) r8)))
                  | fail)
                go_roundw
                case rel => exact ⟨1, by omega, by go_num, HB8.out⟩
                case measure => simp [intOf]
              · have x0 : wr2.cell? ⟨gP, 2, none⟩ = some (.slice (some ⟨gk, 0, none⟩) 32 ck) := cell_below HBW.out _ _ (HP2.out)
                have x1 : wr2.cell? ⟨gP, 3, none⟩ = some (.slice pb nb cb) := cell_below HBW.out _ _ (HP3.out)
                have HS1 := hidden (fun W (hW : Below W0.heap.size W0 W) => psum_any (some ⟨gk, 0, none⟩) pb 32 ck nb cb K b W (HKB.out.below hW) (HBB.out.below hW) (by omega))
                have HS2 := hidden (fun W (hW : Below W0.heap.size W0 W) => rsum_any (some ⟨gk, 0, none⟩) pb 32 ck nb cb K b W (HKB.out.below hW) (HBB.out.below hW) (by omega))
                have HSR := hidden (sumL_rng K b)
                generalize sumL K b = T at *
                obtain ⟨m, hm⟩ : ∃ m, T.length = m := ⟨_, rfl⟩
                have HM := Is.mk hm
                obtain ⟨β, hβ⟩ : ∃ β, decide ((32 : Nat) = 32) = β := ⟨_, rfl⟩
                rw [hβ] at HS1 HS2
                have hbb : (β != β) = false := by simp
                clear hm hβ
                go_wp2_with (first
                  | (go_at_call 10; (with_reducible refine (HS1.out _ (HBW.out.alloc HBW.out.size _)).mono ?_); rintro e6 w6 ⟨v6, rfl, ho, hb⟩; have HB6 := hidden ((HBW.out.alloc HBW.out.size _).trans (hb.mono (by have := HBW.out.size; simp; omega))); obtain ⟨q6, d6, rfl, hbyt⟩ := ho.bytN (N := m) rfl HM.eq HSR.out; have HT6 := hidden hbyt; have HZ6 := hidden (cell_below hb ⟨wr2.heap.size, 0, none⟩ (.slice (some ⟨gk, 0, none⟩) 32 ck) (by go_simp)); have HZ7 := hidden (cell_below hb ⟨wr2.heap.size, 1, none⟩ (.slice pb nb cb) (by go_simp)); have z6 := HZ6.out; have z7 := HZ7.out; clear ho hb hbyt)
                  | (go_at_call 11; (with_reducible refine (HS2.out w6 HB6.out).mono ?_); rintro e7 w7 ⟨v7, rfl, ho, hb⟩; have HB7 := hidden (HB6.out.trans (hb.mono HB6.out.size)); obtain ⟨q7, d7, rfl, hbyt⟩ := ho.bytN (N := m) rfl HM.eq HSR.out; have HT7 := hidden (HT6.out.below hb); have HU7 := hidden hbyt; clear ho hb hbyt)
                  | (go_at_call 12; (with_reducible refine (requal_any q6 q7 m d6 m d7 T T w7 HT7.out HU7.out).mono ?_); rintro e8 w8 ⟨rfl, r8, rfl⟩; have HB8 := hidden (HB7.out.trans (below_drewN (B := W0.heap.size) (w := w7) r8)))
                  | fail)
                go_roundw
                case rel => exact ⟨2, by omega, by go_num, HB8.out⟩
                case measure => simp [intOf]
              · have x0 : wr2.cell? ⟨gP, 4, none⟩ = some (.slice (some ⟨gk, 0, none⟩) 32 ck) := cell_below HBW.out _ _ (HP4.out)
                have x1 : wr2.cell? ⟨gP, 5, none⟩ = some (.slice q nb d) := cell_below HBW.out _ _ (HP5.out)
                have HS1 := hidden (fun W (hW : Below W0.heap.size W0 W) => psum_any (some ⟨gk, 0, none⟩) q 32 ck nb d K Y W (HKB.out.below hW) (HYB.out.below hW) (by omega))
                have HS2 := hidden (fun W (hW : Below W0.heap.size W0 W) => rsum_any (some ⟨gk, 0, none⟩) q 32 ck nb d K Y W (HKB.out.below hW) (HYB.out.below hW) (by omega))
                have HSR := hidden (sumL_rng K Y)
                generalize sumL K Y = T at *
                obtain ⟨m, hm⟩ : ∃ m, T.length = m := ⟨_, rfl⟩
                have HM := Is.mk hm
                obtain ⟨β, hβ⟩ : ∃ β, decide ((32 : Nat) = 32) = β := ⟨_, rfl⟩
                rw [hβ] at HS1 HS2
                have hbb : (β != β) = false := by simp
                clear hm hβ
                go_wp2_with (first
                  | (go_at_call 10; (with_reducible refine (HS1.out _ (HBW.out.alloc HBW.out.size _)).mono ?_); rintro e6 w6 ⟨v6, rfl, ho, hb⟩; have HB6 := hidden ((HBW.out.alloc HBW.out.size _).trans (hb.mono (by have := HBW.out.size; simp; omega))); obtain ⟨q6, d6, rfl, hbyt⟩ := ho.bytN (N := m) rfl HM.eq HSR.out; have HT6 := hidden hbyt; have HZ6 := hidden (cell_below hb ⟨wr2.heap.size, 0, none⟩ (.slice (some ⟨gk, 0, none⟩) 32 ck) (by go_simp)); have HZ7 := hidden (cell_below hb ⟨wr2.heap.size, 1, none⟩ (.slice q nb d) (by go_simp)); have z6 := HZ6.out; have z7 := HZ7.out; clear ho hb hbyt)
                  | (go_at_call 11; (with_reducible refine (HS2.out w6 HB6.out).mono ?_); rintro e7 w7 ⟨v7, rfl, ho, hb⟩; have HB7 := hidden (HB6.out.trans (hb.mono HB6.out.size)); obtain ⟨q7, d7, rfl, hbyt⟩ := ho.bytN (N := m) rfl HM.eq HSR.out; have HT7 := hidden (HT6.out.below hb); have HU7 := hidden hbyt; clear ho hb hbyt)
                  | (go_at_call 12; (with_reducible refine (requal_any q6 q7 m d6 m d7 T T w7 HT7.out HU7.out).mono ?_); rintro e8 w8 ⟨rfl, r8, rfl⟩; have HB8 := hidden (HB7.out.trans (below_drewN (B := W0.heap.size) (w := w7) r8)))
                  | fail)
                go_roundw
                case rel => exact ⟨3, by omega, by go_num, HB8.out⟩
                case measure => simp [intOf]
              · have hge3 : ¬ (j : Int) < 3 := by omega
                clear hj3
                go_wp2
                go_ret
                exact ⟨rfl, HBE.out.trans (HBW.out.mono HBE.out.size)⟩
end Go.Proofs.Ytnbpangegegccaa
