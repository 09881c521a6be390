/-
  curve.product.
-/
import Derived.Test.YtilnbmlbahflkaaMCrvCol
import Derived.Test.YtilnbmlbahflkaaMCrvOps
import Derived.Deep.RegionHeld3
namespace Go.Proofs.Ytilnbmlbahflkaa
open Go.RowKit
set_option linter.unusedVariables false

theorem or13 (x y : Int) (h0 : 0 ≤ x) (h1 : x < 2251799813685248) (y0 : 0 ≤ y) (y1 : y < 8192) : bits .or .u64 (x * 8192) y = x * 8192 + y := by
  rw [u64_or (x * 8192) y (by omega) (by omega) y0 (by omega), nat_join 13 _ _ (by omega) (by omega)]
  omega
/-- What is left of a column's sum. -/
theorem col_low (T : Int) : T % 18446744073709551616 % 2251799813685248 = T % 2251799813685248 := by omega
theorem col_high (T : Int) (h0 : 0 ≤ T) : T / 18446744073709551616 * 8192 + T % 18446744073709551616 / 2251799813685248 = T / 2251799813685248 := by omega
theorem tS_succ (c : Int) (A R : List Int) (i k : Nat) : tS c A R i (k + 1) = tS c A R i k + A.getD k 0 * R.getD (4 - i + k) 0 := rfl
theorem tS_zero (c : Int) (A R : List Int) (i : Nat) : tS c A R i 0 = c := rfl
theorem rowM_z (B : List Int) (j : Nat) (h : j = 0) : rowM B (j + 1) = (rowM B j).set (4 - j) (B.getD j 0) := by subst h; rfl
theorem rowM_nz (B : List Int) (j : Nat) (h : ¬ j = 0) : rowM B (j + 1) = ((rowM B j).set (4 - j) (B.getD j 0)).set (9 - j) (B.getD j 0 * 19) := by
  rw [rowM, if_pos (by omega)]
theorem heap_3rd (w : World) (S : Array Value) (t : TypeId) (a b c d : Obj) : (((((w.alloc a).alloc (.cells S t)).alloc b).alloc c)).heap[w.heap.size + 1]? = some (.cells S t (0, 0)) := by
  have := heap_2nd w a S t b
  rw [Below.heap_alloc _ _ _ (by simp)]
  exact this
/-- What lies where during a product: the first number, the result's variable, the row, the limbs. -/
structure PdI (w wr : World) (n : Nat) (SA : Array Value) (R : List Int) : Prop where
  a : wr.heap[n]? = some (.cells SA 42 (0, 0))
  z : Wn .u64 wr (n + 1 + 1) 42 (List.replicate 5 0)
  r : Wn .u64 wr (n + 1 + 1 + 1) 62 R
  bel : Below n w wr
theorem PdI.setR {w wr : World} {n : Nat} {SA : Array Value} {R : List Int} (h : PdI w wr n SA R) (j : Nat) (v : Int) : PdI w (wr.setCell ⟨n + 1 + 1 + 1, j, none⟩ (.int .u64 v)) n SA (R.set j v) :=
  ⟨by rw [Below.heap_setCell _ _ _ _ (by simp; omega)]; exact h.a, h.z.other _ _ (by simp), h.r.set _ _, h.bel.setCell (by simp; omega) _⟩
theorem PdI.setO {w wr : World} {n : Nat} {SA : Array Value} {R : List Int} (h : PdI w wr n SA R) (j : Nat) (v : Value) : PdI w (wr.setCell ⟨n + 1 + 1 + 1 + 1, j, none⟩ v) n SA R :=
  ⟨by rw [Below.heap_setCell _ _ _ _ (by simp; omega)]; exact h.a, h.z.other _ _ (by simp), h.r.other _ _ (by simp), h.bel.setCell (by simp; omega) _⟩

set_option maxHeartbeats 3200000 in
set_option maxRecDepth 100000 in
theorem cprod_any (A B : List Int) (hA : Lw m2 A) (hB : Lw m2 B) (w : World) :
    Calls Try.prog 20 #[.agg (ints .u64 A), .agg (ints .u64 B)] w fun e w' => ∃ R, e = .returned (.agg (ints .u64 R)) ∧ Lw m1 R ∧ fe R = fe A * fe B ∧ Below w.heap.size w w' := by
  obtain ⟨i0, hi0, hz0, hz1, hz2⟩ := info_parts infoU64c
  have HIXA := hidden (fun (j : Nat) (hj : j < 5) (w' : World) => run_indexN (k := .u64) (P := Try.prog) Try.underlying42 Try.underlying40 hi0 hz1 A hA.len j hj w')
  have HIXB := hidden (fun (j : Nat) (hj : j < 5) (w' : World) => run_indexN (k := .u64) (P := Try.prog) Try.underlying42 Try.underlying40 hi0 hz1 B hB.len j hj w')
  have HIA := hidden (infoE A hA.len)
  have HIB := hidden (infoE B hB.len)
  have HXA := hidden (fun j (hj : j < 5) => hA.get j hj)
  have HXB := hidden (fun j (hj : j < 5) => hB.get j hj)
  have HRL := hidden (rowM_len B)
  have HR0 : Is (rowM B 0) (List.replicate 9 0) := ⟨rfl⟩
  have HRG := hidden (fun j (hj : j < 9) => rowM_rng B hB j hj)
  have HTR := hidden (fun c hc i k hi hk => tS_rng A B hA hB c hc i k hi hk)
  have HTS := hidden (fun c i k => tS_succ c A (rowM B 5) i k)
  have HT0 := hidden (fun c i => tS_zero c A (rowM B 5) i)
  have HT5 : Hid (∀ c i, i < 5 → tS c A (rowM B 5) i 5 = (colsL A (rowM B 5)).getD i 0 + c) := fun c i hi => by rw [tS_add, colsL_get _ _ _ hi]; rfl
  have HCR := hidden (fun j hj => cols_rng A B hA hB j hj)
  have HCL := hidden (cols_last A B hA hB)
  have HNUM := Is.mk (cols_num A B hA.len hB.len)
  have HOS := hidden (fun j (hj : j < 5) => oC_succ (colsL A (rowM B 5)) j (by show j < 5; omega) hj)
  have HOL := hidden (fun j (hj : j ≤ 5) => oC_len (colsL A (rowM B 5)) j hj)
  have HCS := hidden (fun j (hj : j < 5) => cC_succ (colsL A (rowM B 5)) j (by show j < 5; omega))
  have HOE := Is.mk (oC_end (colsL A (rowM B 5)) rfl)
  have HLN := hidden (last_num (colsL A (rowM B 5)) rfl)
  have HLW := hidden (fun d0 d1 d2 d3 d4 hd => last_lw (colsL A (rowM B 5)) d0 d1 d2 d3 d4 (cC (colsL A (rowM B 5)) 5) hd (cols_rng A B hA hB 5 (by omega)).1 (cols_last A B hA hB))
  have HDL := hidden (dig_len B51 5 (num B51 (colsL A (rowM B 5))))
  have HCLEN : Hid ((colsL A (rowM B 5)).length = 5) := by show _ = _; rfl
  generalize hFE : fe A * fe B = FE at *
  clear hFE hi0 hz0 hz1 hz2 hA hB
  generalize hSA : ints .u64 A = SA at HIXA HIA ⊢
  generalize hSB : ints .u64 B = SB at HIXB HIB ⊢
  clear hSA hSB
  go_enter Try.func20, Try.ntmps20
  go_upto_region 2 with fail
  generalize hw1 : World.alloc _ (.cells _ 62) = w1
  have hIB : w1.heap[w.heap.size + 1]? = some (.cells SB 42 (0, 0)) := by
    rw [← hw1]
    exact heap_3rd w _ _ _ _ _ (.cells #[] 0)
  have hI : PdI w w1 w.heap.size SA (rowM B 0) := by
    rw [← hw1, HR0.eq]
    refine ⟨?_, ?_, ?_, ?_⟩
    · rw [Below.heap_alloc _ _ _ (by simp; omega), Below.heap_alloc _ _ _ (by simp; omega), heap_1st]
    · exact (Wn.new' .u64 _ 42 (List.replicate 5 0) _ rfl _ (by simp)).alloc _
    · exact Wn.new' .u64 _ 62 (List.replicate 9 0) _ rfl _ (by simp)
    · exact ((((Below.refl _ w).alloc (Nat.le_refl _) _).alloc (by simp) _).alloc (by simp; omega) _).alloc (by simp; omega) _
  have hsz : w1.heap.size = w.heap.size + 1 + 1 + 1 + 1 := by rw [← hw1]; simp
  clear hw1
  obtain ⟨n, hn⟩ : ∃ n, w.heap.size = n := ⟨_, rfl⟩
  simp only [hn] at hIB hI hsz ⊢
  have HN := hidden hn
  have HIB1 := hidden hIB
  have HI0 := hidden hI
  have HSZ0 := hidden hsz
  clear hIB hI hn hsz
  go_wp2_with (first
    | (refine wpList_load_row rfl 42 _ rfl (n + 1) rfl 42 SB (0, 0) _ HIB1.out Try.underlying42 rfl HIB.out ?_)
    | fail)
  go_loopw [16] (fun i wr => ∃ (j : Nat), j ≤ 5 ∧ i = .int .i64 j ∧ PdI w wr n SA (rowM B j) ∧ wr.heap.size = n + 1 + 1 + 1 + 1) (fun i _ => 5 - (intOf i).toNat)
  case atStart => exact ⟨0, by omega, rfl, HI0.out, HSZ0.out⟩
  case round =>
    obtain ⟨j, hj, rfl, hi, hsz⟩ := hrel
    have HI := hidden hi
    have HSZ := hidden hsz
    clear hi hsz HI0 HIB1 HSZ0
    by_cases hlt : j < 5
    · have hixb := HIXB.out j hlt
      have hxb := HXB.out j hlt
      have b0 : (j : Int) < 5 := by omega
      have b1 : (0 : Int) ≤ (j : Int) := by omega
      have d0 : (0 : Int) ≤ 4 - (j : Int) := by omega
      have d1 : 4 - (j : Int) < 9 := by omega
      have d2 : (4 - (j : Int)).toNat = 4 - j := by omega
      have hf1 := HI.out.r.fr (4 - j)
      have hc1 := HI.out.r.cell (4 - j) (by rw [HRL.out]; omega)
      generalize (rowM B j).getD (4 - j) 0 = y0 at hc1
      have HI1 := hidden (HI.out.setR (4 - j) (B.getD j 0))
      by_cases hj0 : j = 0
      · have c0 : ¬ (0 : Int) < (j : Int) := by omega
        have HSE := Is.mk (rowM_z B j hj0)
        clear hj0
        generalize B.getD j 0 = y at hixb hxb HI1 HSE
        go_wp2
        go_roundw
        case rel => exact ⟨j + 1, by omega, by go_num, by rw [HSE.eq]; exact HI1.out, by simp; exact HSZ.out⟩
        case measure => simp [intOf]; omega
      · have c0 : (0 : Int) < (j : Int) := by omega
        have HSE := Is.mk (rowM_nz B j hj0)
        clear hj0
        generalize B.getD j 0 = y at hixb hxb HI1 HSE
        have e0 : (0 : Int) ≤ 9 - (j : Int) := by omega
        have e1 : 9 - (j : Int) < 9 := by omega
        have e2 : (9 - (j : Int)).toNat = 9 - j := by omega
        have w0 : IntKind.u64.wrap (y * 19) = y * 19 := by unfold m2 at hxb; rw [IntKind.wrap_u64]; omega
        have hf2 := HI1.out.r.fr (9 - j)
        have hc2 := HI1.out.r.cell (9 - j) (by rw [List.length_set, HRL.out]; omega)
        generalize ((rowM B j).set (4 - j) y).getD (9 - j) 0 = y9 at hc2
        have HI2 := hidden (HI1.out.setR (9 - j) (y * 19))
        go_wp2
        go_roundw
        case rel => exact ⟨j + 1, by omega, by go_num, by rw [HSE.eq]; exact HI2.out, by simp; exact HSZ.out⟩
        case measure => simp [intOf]; omega
    · have hj5 : j = 5 := by omega
      have hge : ¬ (j : Int) < 5 := by omega
      have hie := HI.out
      rw [hj5] at hie
      have HIE := hidden hie
      clear hj5 hie HI HR0 HIXB HIB HXB
      generalize hR : rowM B 5 = R at *
      generalize hC : colsL A R = C at *
      have HRLEN : Hid (R.length = 9) := by rw [← hR]; exact HRL.out 5
      clear HRL hR hC
      have HI1 : Hid (PdI w (wr.alloc (.cells #[.int .u64 0, .int .u64 0, .int .u64 0, .int .u64 0, .int .u64 0] 42)) n SA R) := ⟨by rw [Below.heap_alloc _ _ _ (by rw [HSZ.out]; omega)]; exact HIE.out.a, HIE.out.z.alloc _, HIE.out.r.alloc _, HIE.out.bel.alloc (by rw [HSZ.out]; omega) _⟩
      have HO1 : Hid (Wn .u64 (wr.alloc (.cells #[.int .u64 0, .int .u64 0, .int .u64 0, .int .u64 0, .int .u64 0] 42)) (n + 1 + 1 + 1 + 1) 42 (oC C 0)) := by
        rw [oC_zero]
        exact hidden (Wn.new' .u64 wr 42 (List.replicate 5 0) _ rfl _ HSZ.out)
      have HC0 := Is.mk (cC_zero C)
      have HSZ1 := Is.mk HSZ.out
      go_upto_region 10 with fail
      rw [HSZ1.eq]
      generalize World.alloc _ (.cells _ 42) = w2 at *
      clear HIE HSZ HSZ1
      go_wp2
      rename World => wo
      go_loopw [9, 32] (fun c i wr => ∃ (j : Nat), j ≤ 5 ∧ i = .int .i64 j ∧ c = .int .u64 (cC C j) ∧ PdI w wr n SA R ∧ Wn .u64 wr (n + 1 + 1 + 1 + 1) 42 (oC C j)) (fun _ i _ => 5 - (intOf i).toNat)
      case atStart => exact ⟨0, by omega, rfl, by rw [HC0.eq], HI1.out, HO1.out⟩
      case round =>
        clear HI1 HO1
        obtain ⟨i, hi, rfl, rfl, hpi, hpo⟩ := hrel
        have HI := hidden hpi
        have HO := hidden hpo
        clear hpi hpo
        by_cases hit : i < 5
        · have b0 : (i : Int) < 5 := by omega
          have b1 : (0 : Int) ≤ (i : Int) := by omega
          have hcr := HCR.out i hi
          have HT5I := Is.mk (HT5.out (cC C i) i hit)
          have HTRI := hidden (fun k hk => HTR.out (cC C i) hcr.1 i k hit hk)
          have HTSI := hidden (fun k => HTS.out (cC C i) i k)
          have HT0I := Is.mk (HT0.out (cC C i) i)
          have HOSI := Is.mk (HOS.out i hit)
          have HCSI := Is.mk (HCS.out i hit)
          generalize cC C i = c at *
          have HCR2 := hidden hcr
          clear hcr
          go_wp2_with (first
            | (refine wpList_load_row rfl 42 _ rfl n rfl 42 SA (0, 0) _ HI.out.a Try.underlying42 rfl HIA.out ?_)
            | fail)
          rename World => wj
          go_loopw [11, 12, 37] (fun h l k wr => ∃ (j : Nat), j ≤ 5 ∧ k = .int .i64 j ∧ h = .int .u64 (tS c A R i j / 18446744073709551616) ∧ l = .int .u64 (tS c A R i j % 18446744073709551616) ∧ PdI w wr n SA R ∧ Wn .u64 wr (n + 1 + 1 + 1 + 1) 42 (oC C i)) (fun _ _ k _ => 5 - (intOf k).toNat)
          case atStart =>
            have hc := HCR2.out
            refine ⟨0, by omega, rfl, ?_, ?_, HI.out, HO.out⟩
            · rw [HT0I.eq, Int.ediv_eq_zero_of_lt hc.1 (by omega)]
            · rw [HT0I.eq, Int.emod_eq_of_lt hc.1 (by omega)]
          case round =>
            clear HI HO
            obtain ⟨k, hk, rfl, rfl, rfl, hpi, hpo⟩ := hrel
            have HI := hidden hpi
            have HO := hidden hpo
            clear hpi hpo
            by_cases hkt : k < 5
            · have hixa := HIXA.out k hkt
              have hxa := HXA.out k hkt
              have hya := HRG.out (4 - i + k) (by omega)
              have htr := HTRI.out k hk
              have hts := HTSI.out k
              have hcr := HCR2.out
              have hfr := HI.out.r.fr (4 - i + k)
              have hcx := HI.out.r.cell (4 - i + k) (by rw [HRLEN.out]; omega)
              generalize A.getD k 0 = x at *
              generalize R.getD (4 - i + k) 0 = y at *
              generalize tS c A R i k = T at *
              have hp := prod_bound hxa hya
              unfold m2 at hxa hp
              have HC := hidden (addProduct_int T x y htr.1 (by omega) (by omega) (by omega))
              have HTN := Is.mk hts
              have d0 : (0 : Int) ≤ 4 - (i : Int) + (k : Int) := by omega
              have d1 : 4 - (i : Int) + (k : Int) < 9 := by omega
              have d2 : (4 - (i : Int) + (k : Int)).toNat = 4 - i + k := by omega
              have c0 : (k : Int) < 5 := by omega
              have c1 : (0 : Int) ≤ (k : Int) := by omega
              clear hp htr hts hxa hya hcr
              generalize T / 18446744073709551616 = hh at *
              generalize T % 18446744073709551616 = ll at *
              go_wp2_with (first
                | (go_at_call 35; (with_reducible refine (HC.out _).mono ?_); rintro e4 w4 ⟨rfl, rfl⟩)
                | fail)
              go_roundw
              case rel => exact ⟨k + 1, by omega, by go_num, by rw [HTN.eq], by rw [HTN.eq], HI.out, HO.out⟩
              case measure => simp [intOf]; omega
            · have hk5 : k = 5 := by omega
              have hge : ¬ (k : Int) < 5 := by omega
              have htr := HTRI.out k hk
              rw [← hk5] at HT5I
              clear hk5
              rw [HT5I.eq] at htr ⊢
              have hcr := HCR2.out
              generalize hT : C.getD i 0 + c = T at *
              have hand := and51 (T % 18446744073709551616) (by omega) (by omega)
              rw [col_low] at hand
              have wsh : IntKind.u64.wrap (T / 18446744073709551616 * 8192) = T / 18446744073709551616 * 8192 := by rw [IntKind.wrap_u64]; omega
              have hor := or13 (T / 18446744073709551616) (T % 18446744073709551616 / 2251799813685248) (by omega) (by omega) (by omega) (by omega)
              rw [col_high T htr.1] at hor
              have hcx := HO.out.cell i (by rw [HOL.out i (by omega)]; omega)
              have hfx := HO.out.fr i
              generalize (oC C i).getD i 0 = old at hcx
              have HO2 := hidden (HO.out.set i (T % 2251799813685248))
              rw [HOSI.eq] at HO2
              have HI2 := hidden (HI.out.setO i (.int .u64 (T % 2251799813685248)))
              clear htr hT hcr HT5I HO HI
              generalize T / 18446744073709551616 = hh at *
              generalize T % 18446744073709551616 = ll at *
              generalize T % 2251799813685248 = oo at *
              generalize T / 2251799813685248 = cc at *
              go_wp2
              go_roundw
              case rel => exact ⟨i + 1, by omega, by go_num, by rw [HCSI.eq], HI2.out, HO2.out⟩
              case measure => simp [intOf]; omega
        · have hi5 : i = 5 := by omega
          have hge : ¬ (i : Int) < 5 := by omega
          have hoe := HO.out
          rw [hi5, HOE.eq] at hoe
          obtain ⟨d0, d1, d2, d3, d4, hd⟩ := five _ HDL.out
          rw [hd] at hoe
          have hln := HLN.out d0 d1 d2 d3 d4 hd
          obtain ⟨hlw, hr0, hr1⟩ := HLW.out d0 d1 d2 d3 d4 hd
          have hcl := HCL.out
          have hc0 := (HCR.out 5 (by omega)).1
          rw [← hi5] at hln hlw hcl hc0
          clear hi5 hd HO
          generalize cC C i = c at *
          have hq : 0 ≤ d0 + c * 19 ∧ d0 + c * 19 < 18446744073709551616 := by omega
          have w0 : IntKind.u64.wrap (c * 19) = c * 19 := by rw [IntKind.wrap_u64]; omega
          have w1 : IntKind.u64.wrap (d0 + c * 19) = d0 + c * 19 := by rw [IntKind.wrap_u64]; omega
          have w2 : IntKind.u64.wrap (d1 + (d0 + c * 19) / 2251799813685248) = d1 + (d0 + c * 19) / 2251799813685248 := by rw [IntKind.wrap_u64]; omega
          have hand := and51 (d0 + c * 19) hq.1 hq.2
          have HOA := hidden hoe
          have hcA := hoe.cell 0 (by simp)
          have hfA := hoe.fr 0
          have HOB := hidden (hoe.set 0 (d0 + c * 19))
          have HIB := hidden (HI.out.setO 0 (.int .u64 (d0 + c * 19)))
          have hcB1 := HOB.out.cell 1 (by simp)
          have hfB1 := HOB.out.fr 1
          have hcB0 := HOB.out.cell 0 (by simp)
          have hfB0 := HOB.out.fr 0
          have HOC := hidden (HOB.out.set 1 (d1 + (d0 + c * 19) / 2251799813685248))
          have HIC := hidden (HIB.out.setO 1 (.int .u64 (d1 + (d0 + c * 19) / 2251799813685248)))
          have hcC0 := HOC.out.cell 0 (by simp)
          have hfC0 := HOC.out.fr 0
          have HOD := hidden (HOC.out.set 0 ((d0 + c * 19) % 2251799813685248))
          have HID := hidden (HIC.out.setO 0 (.int .u64 ((d0 + c * 19) % 2251799813685248)))
          simp only [List.getD_cons_zero, List.getD_cons_succ, List.set_cons_zero, List.set_cons_succ] at hcA hcB1 hcB0 hcC0
          have HODE : Hid (Wn .u64 _ (n + 1 + 1 + 1 + 1) 42 [(d0 + c * 19) % 2251799813685248, d1 + (d0 + c * 19) / 2251799813685248, d2, d3, d4]) := HOD.out
          generalize hR' : [(d0 + c * 19) % 2251799813685248, d1 + (d0 + c * 19) / 2251799813685248, d2, d3, d4] = R' at *
          have HIR := hidden (infoE R' hlw.len)
          have HZR := hidden (zero5 R' hlw.len)
          have HLN2 := hidden (hln.trans HNUM.eq)
          have HLW2 := hidden hlw
          clear hln hlw hcl hc0 hr0 hr1 hoe hR' HOD HOC HOB HOA
          generalize (d0 + c * 19) % 2251799813685248 = r0 at *
          generalize hs1 : d1 + (d0 + c * 19) / 2251799813685248 = s1 at *
          go_upto_region 25 with fail
          generalize World.setCell _ _ _ = w9 at *
          have HZ9 := hidden HID.out.z
          have HB9 := hidden HID.out.bel
          clear HID HIC HIB
          go_wp2_with (first
            | (refine wpList_load_row rfl 42 _ rfl (n + 1 + 1 + 1 + 1) rfl 42 _ (0, 0) _ HODE.out.heap Try.underlying42 rfl HIR.out ?_)
            | (refine wpList_store_row rfl 42 _ _ rfl (n + 1 + 1) (ints .u64 R') rfl rfl 42 _ HZ9.out.heap HIR.out HZR.out (onek .u64 R') ?_)
            | fail)
          refine bodyPost_ret (results_cell_row rfl _ _ (n + 1 + 1) 42 _ _ _ rfl (HZ9.out.row R').heap Try.underlying42 rfl HIR.out) rfl ?_
          exact ⟨R', rfl, HLW2.out, HLN2.out, by rw [HN.out]; exact below_setRow HB9.out (by omega) _⟩
end Go.Proofs.Ytilnbmlbahflkaa
