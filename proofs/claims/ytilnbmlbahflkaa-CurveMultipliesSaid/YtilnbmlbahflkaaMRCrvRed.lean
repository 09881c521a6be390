/-
  The document's reduce: the digits of the number below the modulus.
-/
import Derived.Test.YtilnbmlbahflkaaMRCrvDec
namespace Go.Proofs.Ytilnbmlbahflkaa
open Go.RowKit
set_option linter.unusedVariables false

/-- The modulus subtracted, where it fits. -/
def rdV (v : Int) : Int := if v + 19 < 57896044618658097711785492504343953926634992332820282019728792003956564819968 then v else v - 57896044618658097711785492504343953926634992332820282019728792003956564819949
theorem rdV_end (v : Int) (h0 : 0 ≤ v) (h1 : v < 115792089237316195423570985008687907853269984665640564039457584007913129639936) : rdV (rdV (rdV v)) = v % (pN : Int) := by
  rw [pN_int]
  unfold rdV
  repeat' split
  all_goals omega
theorem rdV_rng (v : Int) (h0 : 0 ≤ v) (h1 : v < 115792089237316195423570985008687907853269984665640564039457584007913129639936) : 0 ≤ rdV v ∧ rdV v < 115792089237316195423570985008687907853269984665640564039457584007913129639936 := by
  unfold rdV
  split <;> omega
def rdL (L : List Int) : List Int := dig B16 16 (rdV (num B16 L))
theorem ld_num {L : List Int} (h : Ld 65536 L) : 0 ≤ num B16 L ∧ num B16 L < 115792089237316195423570985008687907853269984665640564039457584007913129639936 := by
  have := num_lt B16_pos L h.rng
  rw [h.len, pow16] at this
  exact ⟨num_nonneg (Int.le_of_lt B16_pos) L (fun x hx => (h.rng x hx).1), this⟩
theorem ld_dig (v : Int) : Ld 65536 (dig B16 16 v) := ⟨dig_len _ _ _, dig_rng B16 B16_pos 16 v⟩
theorem dig_ld {L : List Int} (h : Ld 65536 L) (v : Int) (hv : num B16 L = v) : L = dig B16 16 v := by
  have := dig_num B16 B16_pos L h.rng
  rw [h.len, hv] at this
  exact this.symm
theorem rdL_num {L : List Int} (h : Ld 65536 L) : num B16 (rdL L) = rdV (num B16 L) := by
  obtain ⟨h0, h1⟩ := ld_num h
  obtain ⟨r0, r1⟩ := rdV_rng _ h0 h1
  unfold rdL
  rw [num_dig B16 B16_pos, pow16, Int.emod_eq_of_lt r0 r1]
def itD (L : List Int) : Nat → List Int
  | 0 => L
  | r + 1 => rdL (itD L r)
theorem itD_zero (L : List Int) : itD L 0 = L := rfl
theorem itD_succ (L : List Int) (r : Nat) : itD L (r + 1) = rdL (itD L r) := rfl
theorem itD_ld {L : List Int} (h : Ld 65536 L) (r : Nat) : Ld 65536 (itD L r) := by
  cases r with
  | zero => exact h
  | succ r => exact ld_dig _
theorem itD_end {L : List Int} (h : Ld 65536 L) : num B16 (itD L 3) = ((fd L).val : Int) := by
  have h1 := rdL_num (itD_ld h 0)
  have h2 := rdL_num (itD_ld h 1)
  have h3 := rdL_num (itD_ld h 2)
  obtain ⟨g0, g1⟩ := ld_num h
  rw [itD_zero] at h1
  show num B16 (rdL (itD L 2)) = _
  rw [h3, show itD L 2 = rdL (itD L 1) from rfl, h2, show itD L 1 = rdL L from rfl, h1, rdV_end _ g0 g1]
  unfold fd
  rw [toK_int]
/-- The digits with 19 more, and what is carried out of the first j. -/
def uE (L : List Int) (j : Nat) : Int := (num B16 (L.take j) + 19) / B16 ^ j
theorem uE_zero (L : List Int) : uE L 0 = 19 := by simp [uE, num]
theorem uE_succ (L : List Int) (j : Nat) (hj : j < L.length) : uE L (j + 1) = (uE L j + L.getD j 0) / 65536 := by
  unfold uE
  rw [carry_out B16 19 B16_pos L j hj]
  rfl
theorem uE_rng {L : List Int} (h : Ld 65536 L) (j : Nat) (hj : j ≤ 16) : 0 ≤ uE L j ∧ uE L j < 20 := by
  induction j with
  | zero => rw [uE_zero]; omega
  | succ j ih =>
    have := ih (by omega)
    have hx := h.get j (by omega)
    rw [uE_succ L j (by rw [h.len]; omega)]
    omega
def oE (L : List Int) (j : Nat) : List Int := dig B16 j (num B16 (L.take j) + 19) ++ (List.replicate 16 0).drop j
theorem oE_zero (L : List Int) : oE L 0 = List.replicate 16 0 := by simp [oE, dig]
theorem oE_len (L : List Int) (j : Nat) (hj : j ≤ 16) : (oE L j).length = 16 := by simp [oE, dig_len]; omega
theorem oE_succ (L : List Int) (j : Nat) (hj : j < L.length) (hj5 : j < 16) : (oE L j).set j ((uE L j + L.getD j 0) % 65536) = oE L (j + 1) := by
  unfold oE
  have h := carry_dig B16 19 B16_pos L j hj
  rw [set_mid _ _ _ _ (dig_len _ _ _) (by simp; omega), h]
  rfl
theorem oE_ok {L : List Int} (h : Ld 65536 L) : Ld 65536 (oE L 16) ∧
    ((uE L 16 = 0 ∧ (oE L 16).getD 15 0 < 32768 ∧ rdL L = L) ∨ (uE L 16 = 0 ∧ 32768 ≤ (oE L 16).getD 15 0 ∧ (oE L 16).set 15 ((oE L 16).getD 15 0 - 32768) = rdL L) ∨ (uE L 16 = 1 ∧ (oE L 16).set 15 ((oE L 16).getD 15 0 + 32768) = rdL L)) := by
  have e : oE L 16 = dig B16 16 (num B16 L + 19) := by
    unfold oE
    rw [List.take_of_length_le (by rw [h.len]; omega)]
    simp
  have eu : uE L 16 = (num B16 L + 19) / B16 ^ 16 := by
    unfold uE
    rw [List.take_of_length_le (by rw [h.len]; omega)]
  obtain ⟨g0, g1⟩ := ld_num h
  have hD := ld_dig (num B16 L + 19)
  rw [e, eu]
  refine ⟨hD, ?_⟩
  have hl := hD.len
  have h15 := hD.get 15 (by omega)
  have hg := dig_get B16 B16_pos 16 (num B16 L + 19) 15 (by omega)
  have hn := num_dig B16 B16_pos 16 (num B16 L + 19)
  have hs := fun d => num_set B16 (dig B16 16 (num B16 L + 19)) 15 (by omega) d
  have hset : ∀ z, 0 ≤ z → z < 65536 → Ld 65536 ((dig B16 16 (num B16 L + 19)).set 15 z) := fun z z0 z1 => ⟨by rw [List.length_set]; exact hl, fun x hx => by
    rcases List.mem_or_eq_of_mem_set hx with hx | rfl
    · exact hD.rng x hx
    · exact ⟨z0, z1⟩⟩
  have hsame := dig_ld h _ rfl
  have hrd : rdL L = dig B16 16 (rdV (num B16 L)) := rfl
  rw [hrd]
  generalize hDD : dig B16 16 (num B16 L + 19) = D at *
  generalize hy : D.getD 15 0 = y at *
  rw [pow16, pow15] at *
  generalize num B16 L = v at *
  rw [show B16 = 65536 from rfl] at hg
  by_cases c1 : v + 19 < 57896044618658097711785492504343953926634992332820282019728792003956564819968
  · left
    refine ⟨by omega, ?_, ?_⟩
    · omega
    · rw [show rdV (v) = v by unfold rdV; rw [if_pos c1]]
      exact hsame.symm
  · right
    have hv : rdV (v) = v - 57896044618658097711785492504343953926634992332820282019728792003956564819949 := by unfold rdV; rw [if_neg c1]
    rw [hv]
    by_cases c2 : v + 19 < 115792089237316195423570985008687907853269984665640564039457584007913129639936
    · left
      have hy2 : 32768 ≤ y := by omega
      refine ⟨by omega, hy2, ?_⟩
      refine dig_ld (hset _ (by omega) (by omega)) _ ?_
      have := hs (-32768)
      rw [show y + -32768 = y - 32768 by omega] at this
      rw [this, hn]
      omega
    · right
      have hy2 : y = 0 := by omega
      refine ⟨by omega, ?_⟩
      refine dig_ld (hset _ (by omega) (by omega)) _ ?_
      rw [hs, hn]
      omega

set_option maxHeartbeats 1600000 in
set_option maxRecDepth 100000 in
theorem rreduce_any (A : List Int) (hA : Ld 65536 A) (w : World) :
    Calls Try.prog 27 #[.agg (ints .u64 A)] w fun e w' => ∃ R, e = .returned (.agg (ints .u64 R)) ∧ Ld 65536 R ∧ num B16 R = ((fd A).val : Int) ∧ Below w.heap.size w w' := by
  have hA4 := hA.mono (show (65536 : Int) ≤ 4611686018427387904 by omega)
  have hL := carL_ok A hA4
  have HCAR := hidden (rcarry_any A hA4)
  have HIA := hidden (infoD A hA.len)
  have hend := itD_end hL
  rw [carL_fd] at hend
  have HEND := Is.mk hend
  have HZA : Hid ((ints .u64 A).size = (ints .u64 (carL A)).size) := by show _ = _; rw [ints_size, ints_size, hA.len, hL.len]
  have HIL := hidden (infoD (carL A) hL.len)
  have H0 := Is.mk (itD_zero (carL A))
  have HLD := hidden (fun r => itD_ld hL r)
  have HIT := hidden (fun r => itD_succ (carL A) r)
  have HID := hidden (fun r => infoD (itD (carL A) r) (itD_ld hL r).len)
  have HZD := hidden (fun r => zero16 (itD (carL A) r) (itD_ld hL r).len)
  generalize (fd A).val = V at *
  generalize hSA : ints .u64 A = SA at *
  generalize itD (carL A) = IT at *
  generalize carL A = L0 at *
  have HSA := Is.mk hSA
  clear hA hA4 hL hend hSA
  go_enter Try.func27, Try.ntmps27
  go_upto_region 1 with fail
  generalize hw1 : World.alloc _ (.cells _ 54) = w1
  have hA : Wn .u64 w1 w.heap.size 54 A := by
    rw [← hw1]
    exact (Wn.new .u64 w 54 A _ HSA.eq.symm).alloc _
  have hZ : Wn .u64 w1 (w.heap.size + 1) 54 (List.replicate 16 0) := by
    rw [← hw1]
    exact Wn.new' .u64 _ 54 (List.replicate 16 0) _ rfl _ (by simp)
  have hb : Below w.heap.size w w1 := by
    rw [← hw1]
    exact ((Below.refl _ w).alloc (Nat.le_refl _) _).alloc (by simp) _
  clear hw1
  obtain ⟨n, hn⟩ : ∃ n, w.heap.size = n := ⟨_, rfl⟩
  simp only [hn] at hA hZ hb ⊢
  have hAh := hA.heap
  rw [HSA.eq] at hAh
  have HN := hidden hn
  have HAH := hidden hAh
  have HA0 := hidden hA
  have HZ0 := hidden hZ
  have HB0 := hidden hb
  clear hA hZ hb hn hAh
  go_upto_region 2 with (first
    | (refine wpList_load_row rfl 54 _ rfl n rfl 54 _ (0, 0) _ HAH.out Try.underlying54 rfl HIA.out ?_)
    | (go_at_call 36; (with_reducible refine (HCAR.out _).mono ?_); rintro e4 w4 ⟨rfl, hb4⟩; have HB4 := hidden hb4; have HA4 := hidden (HA0.out.below hb4); have HZ4 := hidden (HZ0.out.below hb4); have HAH4 := hidden (HA4.out.heap.trans (congrArg some (by rw [HSA.eq]))); clear hb4)
    | (refine wpList_store_row rfl 54 _ _ rfl n (ints .u64 L0) rfl rfl 54 _ HAH4.out HIL.out HZA.out (onek .u64 L0) ?_)
    | fail)
  generalize hw5 : World.setRow w4 _ _ = w5
  have HA5 : Hid (Wn .u64 w5 n 54 (IT 0)) := by rw [← hw5, H0.eq]; exact hidden (HA4.out.row L0)
  have HZ5 : Hid (Wn .u64 w5 (n + 1) 54 (List.replicate 16 0)) := by rw [← hw5]; exact hidden (HZ4.out.rowOther _ _ (by omega))
  have HB5 : Hid (Below n w w5) := by rw [← hw5]; exact hidden (below_setRow (HB0.out.trans (HB4.out.mono (by have := HA0.out.lt; omega))) (by omega) _)
  clear hw5 HA0 HZ0 HB0 HB4 HA4 HZ4 HAH4 HAH HZA HCAR
  go_wp2
  go_loopw [3] (fun i wr => ∃ (r : Nat), r ≤ 3 ∧ i = .int .i64 r ∧ Wn .u64 wr n 54 (IT r) ∧ Wn .u64 wr (n + 1) 54 (List.replicate 16 0) ∧ Below n w wr) (fun i _ => 3 - (intOf i).toNat)
  case atStart => exact ⟨0, by omega, rfl, HA5.out, HZ5.out, HB5.out⟩
  case round =>
    obtain ⟨r, hr, rfl, ha, hz, hb⟩ := hrel
    have HA := hidden ha
    have HZ := hidden hz
    have HB := hidden hb
    clear ha hz hb HA5 HZ5 HB5
    by_cases hlt : r < 3
    · have b0 : (r : Int) < 3 := by omega
      have hld := HLD.out r
      have HITR := Is.mk (HIT.out r)
      have HID1 := hidden (HID.out (r + 1))
      have HIDR := hidden (HID.out r)
      generalize hM : IT r = M at *
      have hok := oE_ok hld
      have HOK := hidden hok
      have HU0 := Is.mk (uE_zero M)
      have HE0 := Is.mk (oE_zero M)
      have HOL := hidden (fun j (hj : j ≤ 16) => oE_len M j hj)
      have HOS := hidden (fun j (hj : j < 16) => oE_succ M j (by rw [hld.len]; exact hj) hj)
      have HUS := hidden (fun j (hj : j < 16) => uE_succ M j (by rw [hld.len]; exact hj))
      have HUR := hidden (fun j (hj : j ≤ 16) => uE_rng hld j hj)
      have HLD2 := hidden hld
      clear hld hM hok
      go_upto_region 7 with fail
      obtain ⟨m, hm⟩ : ∃ m, wr.heap.size = m := ⟨_, rfl⟩
      have hnm : n + 1 < m := by have := HZ.out.lt; omega
      generalize hw2 : World.alloc wr _ = w2
      have HA2 : Hid (Wn .u64 w2 n 54 M) := by rw [← hw2]; exact hidden (HA.out.alloc _)
      have HZ2 : Hid (Wn .u64 w2 (n + 1) 54 (List.replicate 16 0)) := by rw [← hw2]; exact hidden (HZ.out.alloc _)
      have HO2 : Hid (Wn .u64 w2 m 54 (oE M 0)) := by rw [← hw2, HE0.eq]; exact hidden (Wn.new' .u64 _ 54 (List.replicate 16 0) _ rfl _ hm)
      have HB2 : Hid (Below n w w2) := by rw [← hw2]; exact hidden (HB.out.alloc (by omega) _)
      simp only [hm]
      clear hw2 HA HZ HB hm
      go_wp2
      rename World => wo
      go_loopw [5, 6] (fun u i wq => ∃ (j : Nat), j ≤ 16 ∧ i = .int .i64 j ∧ u = .int .u64 (uE M j) ∧ Wn .u64 wq n 54 M ∧ Wn .u64 wq (n + 1) 54 (List.replicate 16 0) ∧ Wn .u64 wq m 54 (oE M j) ∧ Below n w wq) (fun _ i _ => 16 - (intOf i).toNat)
      case atStart => exact ⟨0, by omega, rfl, by rw [HU0.eq], HA2.out, HZ2.out, HO2.out, HB2.out⟩
      case round =>
        clear HA2 HZ2 HO2 HB2
        obtain ⟨j, hj, rfl, rfl, ha, hz, ho, hb⟩ := hrel
        have HA := hidden ha
        have HZ := hidden hz
        have HO := hidden ho
        have HB := hidden hb
        clear ha hz ho hb
        by_cases hjt : j < 16
        · have hx := HLD2.out.get j hjt
          have hc := HUR.out j hj
          have HS2 := Is.mk (HUS.out j hjt)
          have hos := HOS.out j hjt
          have hcx := HA.out.cell j (by rw [HLD2.out.len]; exact hjt)
          have hfx := HA.out.fr j
          have hcy := HO.out.cell j (by rw [HOL.out j hj]; exact hjt)
          have hfy := HO.out.fr j
          have ho2 := HO.out.set j ((uE M j + M.getD j 0) % 65536)
          rw [hos] at ho2
          have HO2 := hidden ho2
          clear ho2 hos
          generalize M.getD j 0 = x at *
          generalize uE M j = c at *
          have wr0 : IntKind.u64.wrap (c + x) = c + x := by rw [IntKind.wrap_u64]; omega
          have hand := and16d (c + x) (by omega) (by omega)
          have c0 : (j : Int) < 16 := by omega
          have c1 : (0 : Int) ≤ (j : Int) := by omega
          go_wp2
          go_roundw
          case rel => exact ⟨j + 1, by omega, by go_num, by rw [HS2.eq], HA.out.other _ _ (by simp; try omega), HZ.out.other _ _ (by simp; try omega), HO2.out, HB.out.setCell (by simp; try omega) _⟩
          case measure => simp [intOf]; omega
        · have hj16 : j = 16 := by omega
          have hge : ¬ (j : Int) < 16 := by omega
          rw [hj16]
          have ho := HO.out
          rw [hj16] at ho
          obtain ⟨hol, hcase⟩ := HOK.out
          have hcy := ho.cell 15 (by rw [hol.len]; omega)
          have hfy := ho.fr 15
          have hy := hol.get 15 (by omega)
          rcases hcase with ⟨hu, hy2, hsame⟩ | ⟨hu, hy2, hsame⟩ | ⟨hu, hsame⟩
          · rw [hu]
            generalize (oE M 16).getD 15 0 = y at *
            have hge2 : ¬ (32768 : Int) ≤ y := by omega
            have hA3 := HA.out
            rw [← hsame, ← HITR.eq] at hA3
            have HA3 := hidden hA3
            clear hA3 hsame hu ho
            go_wp2
            go_roundw
            case rel => exact ⟨r + 1, by omega, by go_num, HA3.out, HZ.out, HB.out⟩
            case measure => simp [intOf]; omega
          · rw [hu]
            have ho3 := ho.set 15 ((oE M 16).getD 15 0 - 32768)
            rw [hsame, ← HITR.eq] at ho3
            have HO3 := hidden ho3
            clear ho3 hsame hu ho
            generalize (oE M 16).getD 15 0 = y at *
            have wr0 : IntKind.u64.wrap (y - 32768) = y - 32768 := by rw [IntKind.wrap_u64]; omega
            have HZ3 : Hid (Wn .u64 (wr.setCell ⟨m, 15, none⟩ (.int .u64 (y - 32768))) (n + 1) 54 (List.replicate 16 0)) := hidden (HZ.out.other _ _ (by simp; try omega))
            have HA3 : Hid (Wn .u64 (wr.setCell ⟨m, 15, none⟩ (.int .u64 (y - 32768))) n 54 M) := hidden (HA.out.other _ _ (by simp; try omega))
            have HB3 : Hid (Below n w (wr.setCell ⟨m, 15, none⟩ (.int .u64 (y - 32768)))) := hidden (HB.out.setCell (by simp; try omega) _)
            clear HZ HA HB
            have HZS : Hid ((ints .u64 M).size = (ints .u64 (IT (r + 1))).size) := by show _ = _; rw [ints_size, ints_size, HLD2.out.len, (HLD.out (r + 1)).len]
            generalize hRR : IT (r + 1) = R at *
            have HRR := Is.mk hRR
            clear hRR
            go_upto_region 17 with fail
            generalize World.setCell _ _ _ = w5 at *
            clear hcy hfy
            go_wp2_with (first
              | (refine wpList_load_row rfl 54 _ rfl m rfl 54 _ (0, 0) _ HO3.out.heap Try.underlying54 rfl HID1.out ?_)
              | (refine wpList_store_row rfl 54 _ _ rfl n (ints .u64 R) rfl rfl 54 _ HA3.out.heap HID1.out HZS.out (onek .u64 R) ?_)
              | fail)
            go_roundw
            case rel => exact ⟨r + 1, by omega, by go_num, by rw [HRR.eq]; exact HA3.out.row R, HZ3.out.rowOther _ _ (by omega), below_setRow HB3.out (by omega) _⟩
            case measure => simp [intOf]; omega
          · rw [hu]
            have ho3 := (ho.set 15 ((oE M 16).getD 15 0)).set 15 ((oE M 16).getD 15 0 + 32768)
            rw [List.set_set, hsame, ← HITR.eq] at ho3
            have HO3 := hidden ho3
            clear ho3 hsame hu ho
            generalize (oE M 16).getD 15 0 = y at *
            have wr0 : IntKind.u64.wrap (y + 32768) = y + 32768 := by rw [IntKind.wrap_u64]; omega
            have wr1 : IntKind.u64.wrap y = y := by rw [IntKind.wrap_u64]; omega
            have HZ3 : Hid (Wn .u64 ((wr.setCell ⟨m, 15, none⟩ (.int .u64 y)).setCell ⟨m, 15, none⟩ (.int .u64 (y + 32768))) (n + 1) 54 (List.replicate 16 0)) := hidden ((HZ.out.other _ _ (by simp; try omega)).other _ _ (by simp; try omega))
            have HA3 : Hid (Wn .u64 ((wr.setCell ⟨m, 15, none⟩ (.int .u64 y)).setCell ⟨m, 15, none⟩ (.int .u64 (y + 32768))) n 54 M) := hidden ((HA.out.other _ _ (by simp; try omega)).other _ _ (by simp; try omega))
            have HB3 : Hid (Below n w ((wr.setCell ⟨m, 15, none⟩ (.int .u64 y)).setCell ⟨m, 15, none⟩ (.int .u64 (y + 32768)))) := hidden ((HB.out.setCell (by simp; try omega) _).setCell (by simp; try omega) _)
            clear HZ HA HB
            have HZS : Hid ((ints .u64 M).size = (ints .u64 (IT (r + 1))).size) := by show _ = _; rw [ints_size, ints_size, HLD2.out.len, (HLD.out (r + 1)).len]
            generalize hRR : IT (r + 1) = R at *
            have HRR := Is.mk hRR
            clear hRR
            go_upto_region 17 with fail
            generalize World.setCell (World.setCell _ _ _) _ _ = w5 at *
            clear hcy hfy
            go_wp2_with (first
              | (refine wpList_load_row rfl 54 _ rfl m rfl 54 _ (0, 0) _ HO3.out.heap Try.underlying54 rfl HID1.out ?_)
              | (refine wpList_store_row rfl 54 _ _ rfl n (ints .u64 R) rfl rfl 54 _ HA3.out.heap HID1.out HZS.out (onek .u64 R) ?_)
              | fail)
            go_roundw
            case rel => exact ⟨r + 1, by omega, by go_num, by rw [HRR.eq]; exact HA3.out.row R, HZ3.out.rowOther _ _ (by omega), below_setRow HB3.out (by omega) _⟩
            case measure => simp [intOf]; omega
    · have hr3 : r = 3 := by omega
      have hge : ¬ (r : Int) < 3 := by omega
      have hae := HA.out
      rw [hr3] at hae
      have HE := hidden hae
      have HID3 := hidden (HID.out 3)
      have HZD3 := hidden (HZD.out 3)
      have HLD3 := hidden (HLD.out 3)
      clear hr3 hae HA
      generalize IT 3 = R at *
      go_wp2_with (first
        | (refine wpList_load_row rfl 54 _ rfl n rfl 54 _ (0, 0) _ HE.out.heap Try.underlying54 rfl HID3.out ?_)
        | (refine wpList_store_row rfl 54 _ _ rfl (n + 1) (ints .u64 R) rfl rfl 54 _ HZ.out.heap HID3.out HZD3.out (onek .u64 R) ?_)
        | fail)
      refine bodyPost_ret (results_cell_row rfl _ _ (n + 1) 54 _ _ _ rfl (HZ.out.row R).heap Try.underlying54 rfl HID3.out) rfl ?_
      exact ⟨R, rfl, HLD3.out, HEND.eq, by rw [HN.out]; exact below_setRow HB.out (by omega) _⟩
end Go.Proofs.Ytilnbmlbahflkaa
