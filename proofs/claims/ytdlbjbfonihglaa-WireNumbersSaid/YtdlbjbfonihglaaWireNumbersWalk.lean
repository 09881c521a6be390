/-
  The walk of the law WireNumbers: the numbers and pieces at any place of any bytes, and what is appended, are the document's.
-/
import Derived.Test.YtdlbjbfonihglaaAwake
import Derived.Test.YtdlbjbfonihglaaRNumber
import Derived.Test.YtdlbjbfonihglaaWPut
import Derived.Test.YtdlbjbfonihglaaRPut
import Derived.Test.YtdlbjbfonihglaaWSlice
import Derived.Test.YtdlbjbfonihglaaRSlice
import Derived.Test.YtdlbjbfonihglaaRCompare
import Derived.Test.YtdlbjbfonihglaaMod
import Derived.Deep.RegionHeld3
namespace Go.Proofs.Ytdlbjbfonihglaa
open Go.RowKit
set_option linter.unusedVariables false

/-- Bytes and a bool, as a function that makes bytes of its own returns them. -/
def PieceEnd (w : World) (N : Nat) (bs : List Int) (ok : Bool) (e : Ending) (w' : World) : Prop := ∃ p c, e = .returned (.tuple #[.slice p N c, .bool ok]) ∧ Byt w' p N c bs ∧ Below w.heap.size w w'
/-- Bytes, as a function that makes bytes of its own returns them. -/
def PutEnd (w : World) (N : Nat) (bs : List Int) (e : Ending) (w' : World) : Prop := ∃ p c, e = .returned (.slice p N c) ∧ Byt w' p N c bs ∧ Below w.heap.size w w'

/-- What a round of the outer loop needs to know: at one place and one width. -/
structure FactsN (w : World) (p : Option Addr) (n c : Nat) (v ga gk : Int) (P : Int) (ok : Bool) (N : Nat) (ps : List Int) : Prop where
  f1 : ∀ W, Below w.heap.size w W → Calls Try.prog 12 #[.slice p n c, .int .i64 ga, .int .i64 gk] W fun e W' => e = .returned (.tuple #[.int .u64 P, .bool ok]) ∧ W = W'
  f2 : ∀ W, Below w.heap.size w W → Calls Try.prog 13 #[.slice p n c, .int .i64 ga, .int .i64 gk] W fun e W' => e = .returned (.tuple #[.int .u64 P, .bool ok]) ∧ W = W'
  f3 : ∀ W, Below w.heap.size w W → Calls Try.prog 15 #[.slice p n c, .int .u64 v, .int .i64 gk] W (PutEnd W N ps)
  f4 : ∀ W, Below w.heap.size w W → Calls Try.prog 16 #[.slice p n c, .int .u64 v, .int .i64 gk] W (PutEnd W N ps)
  f5 : ∀ W q d r e, Byt W q N d ps → Byt W r N e ps → Calls Try.prog 14 #[.slice q N d, .slice r N e] W fun e W' => e = .returned (.bool true) ∧ ∃ r, W' = W.drewN r
theorem factsN (p : Option Addr) (n c : Nat) (xs : List Int) (w : World) (h : Byt w p n c xs) (b0 : c ≤ 140737488351232) (v ga gk : Int) (g1 : -9223372036854775808 ≤ ga ∧ ga ≤ 9223372036854775807) (g2 : -9223372036854775808 ≤ gk ∧ gk ≤ 9223372036854775807) (g4 : 0 ≤ v ∧ v ≤ 18446744073709551615) :
    FactsN w p n c v ga gk (numR xs ga gk).1 (numR xs ga gk).2 (putR xs v gk).length (putR xs v gk) := by
  have l0 := h.cap
  have hr : ∀ x ∈ putR xs v gk, 0 ≤ x ∧ x ≤ 255 := by
    unfold putR
    split
    · exact rng_append h.rng (be_rng _ _)
    · exact h.rng
  refine ⟨fun W hb => number_any p n c xs W (h.below hb) ga gk g1 g2, fun W hb => rnumber_any p n c xs W (h.below hb) ga gk g1 g2, fun W hb => (put_any p n c xs W (h.below hb) (by omega) v g4 gk).mono ?_, fun W hb => (rput_any p n c xs W (h.below hb) (by omega) v g4 gk).mono ?_, fun W q d r e hy hz => ?_⟩
  · rintro e W' ⟨u, rfl, ho, hb2⟩
    obtain ⟨t, f, rfl, hy⟩ := ho.byt hr
    exact ⟨t, f, rfl, hy, hb2⟩
  · rintro e W' ⟨u, rfl, ho, hb2⟩
    obtain ⟨t, f, rfl, hy⟩ := ho.byt hr
    exact ⟨t, f, rfl, hy, hb2⟩
  · have := requal_any q r _ d _ e _ _ W hy hz
    rw [decide_eq_true rfl] at this
    exact this
/-- What a round of the inner loop needs to know: at one place and one length. -/
structure FactsP (w : World) (p : Option Addr) (n c : Nat) (ga kk : Int) (ok : Bool) (N : Nat) (ps : List Int) : Prop where
  f1 : ∀ W, Below w.heap.size w W → Calls Try.prog 17 #[.slice p n c, .int .i64 ga, .int .i64 kk] W (PieceEnd W N ps ok)
  f2 : ∀ W, Below w.heap.size w W → Calls Try.prog 18 #[.slice p n c, .int .i64 ga, .int .i64 kk] W (PieceEnd W N ps ok)
  f5 : ∀ W q d r e, Byt W q N d ps → Byt W r N e ps → Calls Try.prog 14 #[.slice q N d, .slice r N e] W fun e W' => e = .returned (.bool true) ∧ ∃ r, W' = W.drewN r
theorem factsP (p : Option Addr) (n c : Nat) (xs : List Int) (w : World) (h : Byt w p n c xs) (b0 : c ≤ 140737488351232) (ga kk : Int) (g1 : -9223372036854775808 ≤ ga ∧ ga ≤ 9223372036854775807) (g2 : -9223372036854775808 ≤ kk ∧ kk ≤ 9223372036854775807) :
    FactsP w p n c ga kk (pieceR xs ga kk).2 (pieceR xs ga kk).1.length (pieceR xs ga kk).1 := by
  have l0 := h.cap
  refine ⟨fun W hb => (slice_any p n c xs W (h.below hb) (by omega) ga kk g1 g2).mono ?_, fun W hb => (rslice_any p n c xs W (h.below hb) (by omega) ga kk g1 g2).mono ?_, fun W q d r e hy hz => ?_⟩
  · rintro e W' ⟨t, m, f, rfl, hy, hb2⟩
    obtain rfl := hy.len
    exact ⟨t, f, rfl, hy, hb2⟩
  · rintro e W' ⟨t, m, f, rfl, hy, hb2⟩
    obtain rfl := hy.len
    exact ⟨t, f, rfl, hy, hb2⟩
  · have := requal_any q r _ d _ e _ _ W hy hz
    rw [decide_eq_true rfl] at this
    exact this

set_option maxRecDepth 100000 in
set_option maxHeartbeats 1600000 in
theorem wireNumbers_walk (p : Option Addr) (n c : Nat) (xs : List Int) (za zk zn v : Int) (w : World) (h : Byt w p n c xs) (b0 : c ≤ 140737488351232)
    (g1 : -9223372036854775808 ≤ za ∧ za ≤ 9223372036854775807) (g2 : -9223372036854775808 ≤ zk ∧ zk ≤ 9223372036854775807) (g3 : -9223372036854775808 ≤ zn ∧ zn ≤ 9223372036854775807) (g4 : 0 ≤ v ∧ v ≤ 18446744073709551615) :
    Calls Try.prog 3 #[.slice p n c, .int .i64 za, .int .i64 zk, .int .i64 zn, .int .u64 v] w fun e w' => e = .returned (.bool true) ∧ Below w.heap.size w w' := by
  have l0 := h.cap
  have FN := hidden (fun ga gk r1 r2 => factsN p n c xs w h b0 v ga gk r1 r2 g4)
  have FP := hidden (fun ga kk r1 r2 => factsP p n c xs w h b0 ga kk r1 r2)
  have ma := Int.emod_nonneg za (show (n : Int) + 3 ≠ 0 by omega)
  have ma2 := Int.emod_lt_of_pos za (show (0 : Int) < (n : Int) + 3 by omega)
  have mn := Int.emod_nonneg zn (show (n : Int) + 3 ≠ 0 by omega)
  have mn2 := Int.emod_lt_of_pos zn (show (0 : Int) < (n : Int) + 3 by omega)
  have mk := Int.emod_nonneg zk (show (11 : Int) ≠ 0 by omega)
  have mk2 := Int.emod_lt_of_pos zk (show (0 : Int) < 11 by omega)
  have M1 := hidden (fun W => mod_any za ((n : Int) + 3) W g1 (by omega))
  have M2 := hidden (fun W => mod_any zk 11 W g2 (by omega))
  have M3 := hidden (fun W => mod_any zn ((n : Int) + 3) W g3 (by omega))
  generalize za % ((n : Int) + 3) = a2 at *
  generalize zn % ((n : Int) + 3) = n2 at *
  generalize zk % 11 = k2 at *
  go_enter Try.func3, Try.ntmps3
  go_wp2_with (first
    | (go_at_call 10; refine (awake_any _).mono ?_; rintro e w1 ⟨rfl, hb1⟩; have HB := hidden hb1; clear hb1)
    | (go_at_call 11; (first | (with_reducible refine (M1.out _).mono ?_) | (with_reducible refine (M2.out _).mono ?_) | (with_reducible refine (M3.out _).mono ?_)); rintro e w' ⟨rfl, rfl⟩))
  have HB1 := hidden (HB.out.alloc HB.out.size (.cells #[.int .i64 za, .int .i64 zk, .int .i64 (a2 - 1), .int .i64 (k2 - 1)] 25))
  have hcl : ∀ j, j < 2 → ∃ ga gk : Int, (-9223372036854775808 ≤ ga ∧ ga ≤ 9223372036854775807) ∧ (-9223372036854775808 ≤ gk ∧ gk ≤ 9223372036854775807) ∧
      (w1.alloc (.cells #[.int .i64 za, .int .i64 zk, .int .i64 (a2 - 1), .int .i64 (k2 - 1)] 25)).cell? ⟨w1.heap.size, j * 2, none⟩ = some (.int .i64 ga) ∧
      (w1.alloc (.cells #[.int .i64 za, .int .i64 zk, .int .i64 (a2 - 1), .int .i64 (k2 - 1)] 25)).cell? ⟨w1.heap.size, j * 2 + 1, none⟩ = some (.int .i64 gk) := by
    intro j hj
    have : j = 0 ∨ j = 1 := by omega
    rcases this with rfl | rfl
    · exact ⟨za, zk, g1, g2, by go_simp, by go_simp⟩
    · exact ⟨a2 - 1, k2 - 1, by omega, by omega, by go_simp, by go_simp⟩
  have HCL := hidden hcl
  clear hcl
  generalize w1.alloc (.cells #[.int .i64 za, .int .i64 zk, .int .i64 (a2 - 1), .int .i64 (k2 - 1)] 25) = W1 at *
  generalize w1.heap.size = G at *
  go_loopw [40] (fun i wr => ∃ j : Nat, j ≤ 2 ∧ i = .int .i64 j ∧ Below W1.heap.size W1 wr) (fun i _ => 2 - (intOf i).toNat)
  case atStart => exact ⟨0, by omega, rfl, Below.refl _ _⟩
  case round =>
    obtain ⟨j, hj, rfl, hbl⟩ := hrel
    have HBL := hidden hbl
    clear hbl
    by_cases hlt : j < 2
    · obtain ⟨ga, gk, r1, r2, c1, c2⟩ := HCL.out j hlt
      have c1' := cell_below HBL.out _ _ c1
      have c2' := cell_below HBL.out _ _ c2
      clear c1 c2
      have F := FN.out ga gk r1 r2
      generalize (numR xs ga gk).1 = P at F
      generalize (numR xs ga gk).2 = ok at F
      obtain ⟨N, ps, F⟩ : ∃ N ps, FactsN w p n c v ga gk P ok N ps := ⟨_, _, F⟩
      have F1 := hidden F.f1
      have F2 := hidden F.f2
      have F3 := hidden F.f3
      have F4 := hidden F.f4
      have F5 := hidden F.f5
      clear F
      have hP : (P != P) = false := by simp
      have hok : (ok != ok) = false := by simp
      go_wp2_with fail
      have hbx := Below.alloc HBL.out HBL.out.size (.cells #[.int .i64 ga, .int .i64 gk] 25)
      have HBX := hidden (HB1.out.trans (hbx.mono HB1.out.size))
      have HBL2 := hidden hbx
      have cX0 : (wr.alloc (.cells #[.int .i64 ga, .int .i64 gk] 25)).cell? ⟨wr.heap.size, 0, none⟩ = some (.int .i64 ga) := by go_simp
      have cX1 : (wr.alloc (.cells #[.int .i64 ga, .int .i64 gk] 25)).cell? ⟨wr.heap.size, 1, none⟩ = some (.int .i64 gk) := by go_simp
      clear hbx c1' c2'
      generalize wr.alloc (.cells #[.int .i64 ga, .int .i64 gk] 25) = WX at *
      generalize wr.heap.size = X at *
      go_wp2_with (first
        | (go_at_call 12; (with_reducible refine (F1.out _ HBX.out).mono ?_); rintro e w' ⟨rfl, rfl⟩)
        | (go_at_call 13; (with_reducible refine (F2.out _ HBX.out).mono ?_); rintro e w' ⟨rfl, rfl⟩))
      go_region_held3 (fun w' => w'.cell? ⟨X, 1, none⟩ = some (.int .i64 gk))
        (first | exact cX1 | exact cell_below hb2 _ _ cX1 | exact cell_below hb3 _ _ (cell_below hb2 _ _ cX1) | exact cell_below (drew_below hd) _ _ (cell_below hb3 _ _ (cell_below hb2 _ _ cX1)) | go_keep)
        (first
          | (go_at_call 15; (refine (F3.out _ HBX.out.drew).mono ?_); rintro e W2 ⟨t, f, rfl, hy, hb2⟩)
          | (go_at_call 16; (refine (F4.out _ (HBX.out.drew.trans (hb2.mono HBX.out.size))).mono ?_); rintro e W3 ⟨t', f', rfl, hz, hb3⟩)
          | (go_at_call 14; (refine (F5.out _ _ _ _ _ (hy.below hb3) hz).mono ?_); rintro e W4 ⟨rfl, hd⟩))
      have bX := ((((Below.refl WX.heap.size WX).drew).trans hb2).trans (hb3.mono hb2.size)).trans (drew_below hd)
      have HBX4 := hidden (HBX.out.trans (bX.mono HBX.out.size))
      have HBL4 := hidden (HBL2.out.trans (bX.mono HBL2.out.size))
      have cX4 := cell_below bX _ _ cX0
      clear bX hb2 hb3 hd hy hz cX0 cX1 hP hok HBX HBL2 F1 F2 F3 F4 F5
      go_wp2_with (first
        | (go_at_call 11; (with_reducible refine (M3.out _).mono ?_); rintro e w' ⟨rfl, rfl⟩))
      have HB5 := hidden (HBX4.out.alloc HBX4.out.size (.cells #[.int .i64 zn, .int .i64 (n2 - 1)] 3))
      have HBL5 := hidden (HBL4.out.alloc HBL4.out.size (.cells #[.int .i64 zn, .int .i64 (n2 - 1)] 3))
      have hcl : ∀ i, i < 2 → ∃ kk : Int, (-9223372036854775808 ≤ kk ∧ kk ≤ 9223372036854775807) ∧ (W4.alloc (.cells #[.int .i64 zn, .int .i64 (n2 - 1)] 3)).cell? ⟨W4.heap.size, i, none⟩ = some (.int .i64 kk) := by
        intro i hi
        have : i = 0 ∨ i = 1 := by omega
        rcases this with rfl | rfl
        · exact ⟨zn, g3, by go_simp⟩
        · exact ⟨n2 - 1, by omega, by go_simp⟩
      have HCK := hidden hcl
      have cX5 := Lib.cell?_alloc_some (.cells #[.int .i64 zn, .int .i64 (n2 - 1)] 3) cX4
      clear hcl cX4 HBX4 HBL4
      generalize W4.alloc (.cells #[.int .i64 zn, .int .i64 (n2 - 1)] 3) = W5 at *
      generalize W4.heap.size = L at *
      go_loopw [93] (fun i wr => ∃ i' : Nat, i' ≤ 2 ∧ i = .int .i64 i' ∧ Below W5.heap.size W5 wr) (fun i _ => 2 - (intOf i).toNat)
      case atStart => exact ⟨0, by omega, rfl, Below.refl _ _⟩
      case round =>
        obtain ⟨i, hi2, rfl, hbi⟩ := hrel
        have HBI := hidden hbi
        have HBY := hidden (HB5.out.trans (hbi.mono HB5.out.size))
        have cX6 := cell_below hbi _ _ cX5
        clear hbi
        by_cases hlt2 : i < 2
        · obtain ⟨kk, r3, c3⟩ := HCK.out i hlt2
          have c3' := cell_below HBI.out _ _ c3
          have F := FP.out ga kk r1 r3
          generalize (pieceR xs ga kk).2 = ok at F
          obtain ⟨N, ps, F⟩ : ∃ N ps, FactsP w p n c ga kk ok N ps := ⟨_, _, F⟩
          have F1 := hidden F.f1
          have F2 := hidden F.f2
          have F5 := hidden F.f5
          have hok : (ok != ok) = false := by simp
          clear F c3
          go_wp2_with (first
            | (go_at_call 17; (with_reducible refine (F1.out _ HBY.out).mono ?_); rintro e V2 ⟨t, f, rfl, hy, hb2⟩; have HY := hidden hy; have HV2 := hidden hb2; have cX7 := cell_below hb2 _ _ cX6; clear hy hb2)
            | (go_at_call 18; (with_reducible refine (F2.out _ (HBY.out.trans (HV2.out.mono HBY.out.size))).mono ?_); rintro e V3 ⟨t', f', rfl, hz, hb3⟩; have HZ := hidden hz; have HY2 := hidden (HY.out.below hb3); have HV3 := hidden (HV2.out.trans (hb3.mono HV2.out.size)); clear hz hb3)
            | (go_at_call 14; (with_reducible refine (F5.out _ _ _ _ _ HY2.out HZ.out).mono ?_); rintro e V4 ⟨rfl, hd⟩; have HV4 := hidden (HV3.out.trans (drew_below hd)); clear hd))
          go_roundw
          case rel => exact ⟨i + 1, by omega, by go_num, HBI.out.trans (HV4.out.mono HBI.out.size)⟩
          case measure => simp [intOf]; omega
        · have HE := hidden (HBL5.out.trans ((show Below W5.heap.size W5 _ from HBI.out).mono HBL5.out.size))
          clear cX6 cX5
          go_wp2
          go_roundw
          case rel => exact ⟨j + 1, by omega, by go_num, HE.out⟩
          case measure => simp [intOf]; omega
    · have HE := hidden (HB1.out.trans (HBL.out.mono HB1.out.size))
      go_wp2
      go_ret
      exact ⟨rfl, HE.out⟩
end Go.Proofs.Ytdlbjbfonihglaa
