/-
  The law ProposalCounts, walked: it returns true for every input, and only adds memory of its own.
-/
import Derived.Test.YteopllkjdmpacaaPropSpoil
import Derived.Deep.RegionLaw
namespace Go.Proofs.Yteopllkjdmpacaa
open Go.RowKit
set_option linter.unusedVariables false

set_option maxHeartbeats 3200000 in
set_option maxRecDepth 100000 in
theorem proposalCounts_walk (p : Option Addr) (n c : Nat) (xs : List Int) (swap : Int) (w : World) (h : Byt w p n c xs) (b0 : c ≤ 140737488351232) (g1 : 0 ≤ swap ∧ swap ≤ 255) :
    Calls Try.prog 6 #[.slice p n c, .int .u8 swap] w fun e w' => e = .returned (.bool true) ∧ Below w.heap.size w w' := by
  have HX := hidden h
  have HA := hidden (awake04_any w)
  clear h
  go_enter Try.func6, Try.ntmps6
  go_wp2_with (go_at_call 7; (with_reducible refine (HA.out).mono ?_))
  rintro e w1 ⟨rfl, hb⟩
  have HB1 := hidden hb
  clear hb HA
  go_wp2_with (go_at_call 8; (refine (new_any w p n c xs w1 HX.out HB1.out 160 (by omega)).mono ?_))
  rintro e w2 ⟨rfl, hc, hb⟩
  have HC2 := hidden hc
  clear hc hb HB1 HX
  go_wp2_with (go_at_call 10; (refine (drawP_any w w2 _ HC2.out 4 (by omega) (by omega) 3 (by omega)).mono ?_))
  rintro e w3 ⟨v, ls, rfl, hl1, hl4, hdr, hrow, hcod, -⟩
  obtain ⟨pv, cv, rfl, hrd⟩ := hrow.rd (D := DPr) rfl (fun _ h => h.rd)
  have hck := hdr.check (Or.inr (Or.inr rfl)) hl1 (by omega)
  have HB3 := hidden hcod.bel
  have HBD := hidden (pbuild_b pv ls.length cv ls w3 hrd _ 0 (hdr.built (Or.inr (Or.inr rfl)) hl1 (by omega)))
  have hln : (encPs (ls.map PrP.pr)).length ≤ 4 * 304 := by
    have := encPs_le (ls.map PrP.pr) (checkP_ok hck).2.2
    rw [List.length_map] at this
    omega
  have HDR := hidden hdr
  have HR3 := hidden hrd
  clear hdr hrow hcod hrd HC2 hck
  go_wp2_with (go_at_call 17; (with_reducible refine (HBD.out).mono ?_))
  rintro e w4 ⟨pb, cb, rfl, hy, hb⟩
  have HB4 := hidden (HB3.out.trans (hb.mono HB3.out.size))
  have HR4 := hidden (HR3.out.below hb)
  obtain ⟨nb, hnb⟩ : ∃ nb, (encPs (ls.map PrP.pr)).length = nb := ⟨_, rfl⟩
  rw [hnb] at hln ⊢
  have HNB := hidden hnb
  obtain ⟨nl, hnl⟩ : ∃ nl, ls.length = nl := ⟨_, rfl⟩
  rw [hnl] at HR4 hl1 hl4 ⊢
  have HNL := hidden hnl
  clear hy hb HB3 HBD hnb HR3 hnl
  go_wp2_with fail
  go_loopw [8, 28] (fun u i wr => ∃ (j N : Nat), i = .int .i64 j ∧ j ≤ nl ∧ u = .int .i64 N ∧ N + (encPs ((ls.map PrP.pr).drop j)).length = nb ∧ Below w4.heap.size w4 wr) (fun _ i _ => nl - (intOf i).toNat)
  case atStart => exact ⟨0, 0, rfl, by omega, rfl, by rw [List.drop_zero, HNB.out]; omega, Below.refl _ _⟩
  case round =>
    obtain ⟨j, N, rfl, hj, rfl, hN, hbel⟩ := hrel
    have HBL := hidden hbel
    have HNN := hidden hN
    clear hbel
    by_cases hlt : ¬ j < nl
    · obtain rfl : j = nl := by omega
      rw [List.drop_of_length_le (by rw [List.length_map, HNL.out]; exact Nat.le_refl _), encPs] at hN
      simp at hN
      subst hN
      clear HNN
      have hbn : ((N : Int) != N) = false := by simp
      obtain ⟨K, hK⟩ := Int.eq_ofNat_of_zero_le (Int.emod_nonneg swap (show (j : Int) ≠ 0 by omega))
      have hKn : K < j := by have := Int.emod_lt_of_pos swap (show (0 : Int) < j by omega); omega
      have hKt : swap.tmod (j : Int) = (K : Int) := by rw [Int.tmod_eq_emod_of_nonneg g1.1]; exact hK
      have hnz : ¬ (j : Int) = 0 := by omega
      clear hK
      have HR5 := hidden (HR4.out.below HBL.out)
      have HB5 := hidden (HB4.out.trans (HBL.out.mono HB4.out.size))
      have hs5 := HB5.out.size
      have hints : ∀ x ∈ ls, IntP x := fun x hx => (HR4.out.ok x hx).int
      have HIN := hidden hints
      clear hints
      go_wp2_with (at_builtin; go_loud (refine wpList_append_g knownPr (by simp [NPd]) _ rfl _ _ rfl wr.heap.size _ [] rfl (RowG.nil KPr NPd wr wr.heap.size) _ j cv ls rfl HR5.out.src HIN.out ?b1 ?b2 (Nat.le_refl _) ?_))
      case b1 => unfold maxLen; simp; omega
      case b2 => simp; omega
      intro v6 w6 hrow6 hg6
      obtain ⟨pm, cm, rfl⟩ := hrow6.form HNL.out
      obtain ⟨gm, cm', em, hjc, _, hgm, hgm2, hcm, hfm⟩ := hrow6.at_ HNL.out (by omega)
      simp at em
      obtain ⟨rfl, rfl⟩ := em
      have hb6 : Below wr.heap.size wr w6 := (Below.refl wr.heap.size wr).grown hg6 (Nat.le_refl _) (by intro k hk; simp [Value.ownBlock] at hk)
      have hKl : K < ls.length := by rw [HNL.out]; exact hKn
      obtain ⟨x, hx⟩ : ∃ x, ls[K] = x := ⟨_, rfl⟩
      have hdx : DrawnP 3 ((K : Int) + 1) x := by have := HDR.out K hKl; rw [hx] at this; exact this
      have hxn := hdx.n
      have m0 : w6.cell? ⟨gm, K * 4, none⟩ = some (.int .i64 x.n) := by
        have := hcm _ _ (KPr.row_get ls K hKl 0 (.int .i64 x.n) (by rw [hx]; rfl))
        simpa [KPr] using this
      have hxb : x.n ≤ 5 := by omega
      have hxb0 : 0 ≤ x.n := by omega
      have hset := hrow6.set K hKl 0 (by decide) (.int .i64 (x.n + 1)) { x with n := x.n + 1 } (by rw [hx]; rfl) HNL.out (by simp [NPd]) ⟨⟨by show -9223372036854775808 ≤ x.n + 1; omega, by show x.n + 1 ≤ 9223372036854775807; omega⟩, (HIN.out x (by rw [← hx]; exact List.getElem_mem _)).2⟩
      have HSET : Hid (RowG KPr NPd (w6.setCell ⟨gm, K * 4, none⟩ (.int .i64 (x.n + 1))) wr.heap.size (.slice (some ⟨gm, 0, none⟩) j cm) (ls.set K { x with n := x.n + 1 })) := hidden hset
      have HB7 := hidden (hb6.grown (grown_set w6 gm (K * 4) (.int .i64 (x.n + 1))) hb6.size (fun k hk => by cases hk; exact hgm))
      have HDX := hidden hdx
      have HXX := hidden hx
      clear hset hrow6 hg6 hb6 hcm hx hdx hxn
      go_wp2_with (at_builtin; go_loud (refine wpList_append_g knownPr (by simp [NPd]) _ rfl _ _ rfl (w6.setCell ⟨gm, K * 4, none⟩ (.int .i64 (x.n + 1))).heap.size _ [] rfl (RowG.nil KPr NPd _ _) _ j cv ls rfl (HR5.out.below HB7.out).src HIN.out ?b1 ?b2 (Nat.le_refl _) ?_))
      case b1 => unfold maxLen; simp; omega
      case b2 => simp; omega
      intro v8 w8 hrow8 hg8
      obtain ⟨pt, ct, rfl⟩ := hrow8.form HNL.out
      obtain ⟨gt, ct', et, hjt, _, hgt, hgt2, hct, hft⟩ := hrow8.at_ HNL.out (by omega)
      simp at et
      obtain ⟨rfl, rfl⟩ := et
      have hgsz : (w6.setCell ⟨gm, K * 4, none⟩ (.int .i64 (x.n + 1))).heap.size = w6.heap.size := by simp [World.setCell]
      have hgtw : wr.heap.size ≤ gt := by
        have := HB7.out.size
        rw [hgsz] at this
        omega
      have hgtm : gm < gt := Nat.lt_of_lt_of_le hgm2 hgt
      clear hgsz
      have hb8 : Below wr.heap.size wr w8 := HB7.out.grown hg8 HB7.out.size (by intro k hk; simp [Value.ownBlock] at hk)
      have HM8 : Hid (RowG KPr NPd w8 wr.heap.size (.slice (some ⟨gm, 0, none⟩) j cm) (ls.set K { x with n := x.n + 1 })) := hidden (HSET.out.grown hg8 (by intro r hr; simp [Value.ownBlock] at hr) (fun r hr => by simp [Value.ownBlock] at hr))
      have HOK8 := hidden (fun y hy => DPr.keep (HR5.out.ok y hy) (cell_below hb8))
      have hxm : x ∈ ls := by rw [← HXX.out]; exact List.getElem_mem _
      have hox : OkD w8 x := HOK8.out x hxm
      obtain ⟨gl, rfl, hcl, -⟩ := (HR5.out.below hb8).cell K hKl
      rw [HXX.out] at hcl
      have l3 : w8.cell? ⟨gl, K * 4 + 3, none⟩ = some (.slice x.tp x.tn x.tc) := by simpa [KPr] using hcl 3 _ rfl
      have htl := hox.ts.len
      have htn : 1 ≤ x.tn := by have := HDX.out.ts.some_; omega
      have htn6 : x.tn ≤ 6 := by have := HDX.out.ts.few; omega
      have htc := hox.ts.cap
      obtain ⟨ga, hga, hca, -⟩ := hox.ts.cell 0 (by omega)
      obtain ⟨z, hz⟩ : ∃ z, x.ts[0]'(by omega) = z := ⟨_, rfl⟩
      rw [hz] at hca
      have hzm : z ∈ x.ts := by rw [← hz]; exact List.getElem_mem _
      obtain ⟨zt, zi, zk⟩ := z
      have z0 : w8.cell? ⟨ga, 0, none⟩ = some (.int .i64 zt) := by simpa [KTr] using hca 0 _ rfl
      have z1 : w8.cell? ⟨ga, 1, none⟩ = some (.int .i64 zi) := by simpa [KTr] using hca 1 _ rfl
      have z2 : w8.cell? ⟨ga, 2, none⟩ = some (.int .i64 zk) := by simpa [KTr] using hca 2 _ rfl
      have t3 : w8.cell? ⟨gt, K * 4 + 3, none⟩ = some (.slice x.tp x.tn x.tc) := by
        have := hct _ _ (KPr.row_get ls K hKl 3 (.slice x.tp x.tn x.tc) (by rw [HXX.out]; rfl))
        simpa [KPr] using this
      rw [hga] at l3 t3
      have hD : Below w8.heap.size w8 w8.drew := drew_below ⟨1, rfl⟩
      have hDa : Below w8.heap.size w8 (w8.drew.alloc (.cells #[.int .i64 zt, .int .i64 zi, .int .i64 zk] 42)) := hD.alloc hD.size _
      have HS1 : Hid (SrcG KTr w8.drew (some ⟨ga, 0, none⟩) x.tn x.ts) := hidden (by have := (hox.ts.below hD).src; rw [hga] at this; exact this)
      have HS2 : Hid (SrcG KTr (w8.drew.alloc (.cells #[.int .i64 zt, .int .i64 zi, .int .i64 zk] 42)) (some ⟨ga, 0, none⟩) x.tn x.ts) := hidden (by have := (hox.ts.below hDa).src; rw [hga] at this; exact this)
      have l3a : (w8.alloc (.cells #[.int .i64 zt, .int .i64 zi, .int .i64 zk] 42)).cell? ⟨gl, K * 4 + 3, none⟩ = some (.slice (some ⟨ga, 0, none⟩) x.tn x.tc) := cell_below ((Below.refl _ w8).alloc (Nat.le_refl _) _) _ _ l3
      have HD := hidden hD
      have HDA := hidden hDa
      have HIT := hidden (fun y hy => hox.ts.ok y hy)
      have HZI := hidden (hox.ts.ok _ hzm)
      have hzp : (0 : Int) < x.tn := by omega
      have hzp2 : 0 < x.tn := by omega
      have L3 := hidden l3
      have T3 := hidden t3
      have Z0 := hidden z0
      have Z1 := hidden z1
      have Z2 := hidden z2
      have HFT := hidden hft
      have HGT := hidden hgt2
      have HZM := hidden hzm
      have HLN : Hid ((x.ts ++ [(⟨zt, zi, zk⟩ : Tr)]).length = x.tn + 1) := hidden (by rw [List.length_append, htl]; rfl)
      have HR8 := hidden hrow8
      have HB8 := hidden hb8
      have HTL := hidden htl
      clear hcl hox hca hz hxm hb8 hct hft hrow8 hg8 hD hDa HSET htl hga hzm
      go_wp2_with fail
      go_region_law (first
        | (refine step_append_g knownTr (by simp [NTr]) _ (by rfl) _ _ (by rfl) w8.heap.size _ [] (by rfl) (RowG.nil KTr NTr _ _) _ x.tn x.tc x.ts (by rfl) HS1.out HIT.out (by unfold maxLen; simp; omega) (by simp; omega) (by simp) ?_; intro va1 wa1 hra1 hga1; have hb1 := HD.out.grown hga1 HD.out.size (by intro k hk; simp [Value.ownBlock] at hk); have l3 := cell_below hb1 _ _ L3.out; have t3 := cell_below hb1 _ _ T3.out; have z0 := cell_below hb1 _ _ Z0.out; have z1 := cell_below hb1 _ _ Z1.out; have z2 := cell_below hb1 _ _ Z2.out; have fr := fr_below hb1 HGT.out HFT.out)
        | (refine step_append_g knownTr (by simp [NTr]) _ (by rfl) _ _ (by rfl) w8.heap.size _ [] (by rfl) (RowG.nil KTr NTr _ _) _ x.tn x.tc x.ts (by rfl) HS2.out HIT.out (by unfold maxLen; simp; omega) (by simp; omega) (by simp) ?_; intro va2 wa2 hra2 hga2; have hb1 := HDA.out.grown hga2 HDA.out.size (by intro k hk; simp [Value.ownBlock] at hk); have l3 := cell_below hb1 _ _ L3.out; have t3 := cell_below hb1 _ _ T3.out; have fr := fr_below hb1 HGT.out HFT.out; have hsz := (srcTr w8.drew zt zi zk 42).keep (fun a v h => hga2.cell h (by simp [Value.ownBlock])))
        | (refine step_append_g knownTr (by simp [NTr]) _ (by rfl) _ _ (by rfl) w8.heap.size _ x.ts (by rfl) (hra1.alloc _) _ 1 1 [⟨zt, zi, zk⟩] (by rfl) (srcTr wa1 zt zi zk _) (fun y hy => by rw [List.mem_singleton.1 hy]; exact HZI.out) (by have := HTL.out; unfold maxLen; omega) (by have := HTL.out; omega) (by have := hb1.size; simp; omega) ?_; intro vb wb hrb hgb; obtain ⟨tp2, tc2, rfl⟩ := hrb.form HLN.out; have hb2 := (hb1.alloc hb1.size _).grown hgb (by have := hb1.size; simp; omega) (fun k hk => (hra1.lt k hk).1); have t3 := cell_below hb2 _ _ T3.out; have fr := fr_below hb2 HGT.out HFT.out)
        | (refine step_append_g knownTr (by simp [NTr]) _ (by rfl) _ _ (by rfl) w8.heap.size _ x.ts (by rfl) hra2 _ 1 1 [⟨zt, zi, zk⟩] (by rfl) hsz (fun y hy => by rw [List.mem_singleton.1 hy]; exact HZI.out) (by have := HTL.out; unfold maxLen; omega) (by have := HTL.out; omega) (by have := hb1.size; omega) ?_; intro vb wb hrb hgb; obtain ⟨tp2, tc2, rfl⟩ := hrb.form HLN.out; have hb2 := hb1.grown hgb hb1.size (fun k hk => (hra2.lt k hk).1); have t3 := cell_below hb2 _ _ T3.out; have fr := fr_below hb2 HGT.out HFT.out))
      all_goals
        have HRB := hidden hrb
        have HBB := hidden hb2
        clear hrb hb2 hgb fr t3
        have hgs := grown_set wb gt (K * 4 + 3) (.slice tp2 (x.tn + 1) tc2)
        have hB9 : Below wr.heap.size wr (wb.setCell ⟨gt, K * 4 + 3, none⟩ (.slice tp2 (x.tn + 1) tc2)) := (HB8.out.trans (HBB.out.mono HB8.out.size)).grown hgs (Nat.le_trans HB8.out.size HBB.out.size) (fun k hk => by cases hk; exact hgtw)
        have hok9 : ∀ y ∈ ls, OkD (wb.setCell ⟨gt, K * 4 + 3, none⟩ (.slice tp2 (x.tn + 1) tc2)) y := fun y hy => DPr.keep (HR5.out.ok y hy) (cell_below hB9)
        have hxm : x ∈ ls := by rw [← HXX.out]; exact List.getElem_mem _
        have hx9 := hok9 x hxm
        have hm9 : RdG KPr DPr (wb.setCell ⟨gt, K * 4 + 3, none⟩ (.slice tp2 (x.tn + 1) tc2)) (some ⟨gm, 0, none⟩) j cm (ls.set K { x with n := x.n + 1 }) := by
          have h1 := (HM8.out.below HBB.out).grown hgs (fun r hr => by cases hr; simp [Value.ownBlock]; omega) (fun r hr => Or.inr (fun cur e fz _ hm => by simp [NPd] at hm))
          obtain ⟨p', c', e, -⟩ := h1.form (n := j) (by rw [List.length_set]; exact HNL.out)
          refine (RowG.rd2' h1 (by rw [List.length_set]; exact HNL.out) (fun y hy => ?_))
          rcases List.mem_or_eq_of_mem_set hy with hy | rfl
          · exact hok9 y hy
          · exact ⟨⟨⟨by show -9223372036854775808 ≤ x.n + 1; omega, by show x.n + 1 ≤ 9223372036854775807; omega⟩, hx9.int.2⟩, hx9.s, hx9.ts⟩
        have ht9 : RdG KPr DPr (wb.setCell ⟨gt, K * 4 + 3, none⟩ (.slice tp2 (x.tn + 1) tc2)) (some ⟨gt, 0, none⟩) j ct (ls.set K { x with tp := tp2, tn := x.tn + 1, tc := tc2, ts := x.ts ++ [⟨zt, zi, zk⟩] }) := by
          have h1 := (HR8.out.below HBB.out).set K hKl 3 (by decide) (.slice tp2 (x.tn + 1) tc2) { x with tp := tp2, tn := x.tn + 1, tc := tc2, ts := x.ts ++ [⟨zt, zi, zk⟩] } (by rw [HXX.out]; rfl) HNL.out (by simp [NPd]) hx9.int
          refine (RowG.rd2' h1 (by rw [List.length_set]; exact HNL.out) (fun y hy => ?_))
          rcases List.mem_or_eq_of_mem_set hy with hy | rfl
          · exact hok9 y hy
          · refine ⟨hx9.int, hx9.s, ?_⟩
            have h2 := HRB.out.low hgs (by have := HGT.out; omega)
            exact RowG.rd2' h2 HLN.out (fun y hy => h2.ok y hy)
        have HC1 := hidden (checkAll_any _ _ _ _ _ hm9 7 (check_spoilt (Or.inr (Or.inr rfl)) HDR.out (by rw [HNL.out]; omega) K hKl _ 7 (err_number HDX.out (x.n + 1) (by have := HDX.out.n; omega)) (by decide)))
        have HT9 := hidden ht9
        have HE2 := hidden (check_spoilt (Or.inr (Or.inr rfl)) HDR.out (by rw [HNL.out]; omega) K hKl _ 9 (err_twice HDX.out (Or.inr (Or.inr rfl)) ⟨zt, zi, zk⟩ HZM.out tp2 (x.tn + 1) tc2) (by decide))
        have HB9 := hidden (HB5.out.trans (hB9.mono hs5))
        clear hgs hB9 hok9 hx9 hm9 ht9 HS1 HS2 HD HDA HRB HBB HM8 HR8
        go_wp2_with fail
        go_at_call 19
        (with_reducible refine (HC1.out).mono ?_)
        rintro e wX ⟨rfl, hbX⟩
        have HC2 := hidden (checkAll_any _ _ _ _ _ (HT9.out.below hbX) 9 HE2.out)
        have HBX := hidden (HB9.out.trans (hbX.mono HB9.out.size))
        clear hbX HC1
        go_wp2_with (go_at_call 19; (with_reducible refine (HC2.out).mono ?_); rintro e wY ⟨rfl, hbY⟩)
        go_ret
        exact ⟨rfl, HBX.out.trans (hbY.mono HBX.out.size)⟩
    replace hlt : j < nl := by omega
    have hNb : N ≤ 1216 := by omega
    have hlt' : (j : Int) < nl := by omega
    have hjl : j < ls.length := by rw [HNL.out]; exact hlt
    obtain ⟨g, rfl, hc, hok⟩ := (HR4.out.below HBL.out).cell j hjl
    have hat := encPs_at (ls.map PrP.pr) j (by simpa using hjl)
    obtain ⟨x, hx⟩ : ∃ x, ls[j] = x := ⟨_, rfl⟩
    rw [hx] at hc hok
    have hx2 : (ls.map PrP.pr)[j]'(by simpa using hjl) = x.pr := by simp [hx]
    rw [hx2] at hat
    obtain ⟨R, hR⟩ : ∃ R, (encPs ((ls.map PrP.pr).drop (j + 1))).length = R := ⟨_, rfl⟩
    rw [hR] at hat
    have HR := hidden hR
    obtain ⟨xn, xp, xsp, xsn, xsc, xs, xtp, xtn, xtc, xts⟩ := x
    have c0 := hc 0 _ rfl
    have c1 := hc 1 _ rfl
    have c2 := hc 2 _ rfl
    have c3 := hc 3 _ rfl
    simp only [KPr, Nat.add_zero] at c0 c1 c2 c3
    have hsl : xs.length = xsn := hok.s.len
    have htl : xts.length = xtn := hok.ts.len
    simp only [PrP.pr, hsl] at hat
    have HTS : Hid (RdG KTr DTr wr xtp xtn xtc xts) := hidden hok.ts
    have HTL := hidden htl
    have hbx : xsn ≤ 2000 := by omega
    have hxtn : xtn ≤ 9223372036854775807 := hok.ts.le
    rw [hat] at hN
    have HNN := hidden hN
    have hal : Below wr.heap.size wr (wr.alloc (.cells #[.int .i64 xn, .int .i64 xp, .slice xsp xsn xsc, .slice xtp xtn xtc] 40)) := (Below.refl _ _).alloc (Nat.le_refl _) _
    have HAL := hidden hal
    clear hc hok hx hx2 hat hN hal hR hsl htl
    rename World => wo
    go_wp2_with fail
    go_loopw [8, 41] (fun u i wq => ∃ (t M : Nat), i = .int .i64 t ∧ t ≤ xtn ∧ u = .int .i64 M ∧ M + (encTs (xts.drop t)).length + R = nb ∧ Below wo.heap.size wo wq) (fun _ i _ => xtn - (intOf i).toNat)
    case atStart => exact ⟨0, N + (8 + xsn), rfl, by omega, by go_num, by rw [List.drop_zero]; have := HNN.out; omega, HAL.out⟩
    case round =>
      obtain ⟨t, M, rfl, ht, rfl, hM, hbq⟩ := hrel
      have HBQ := hidden hbq
      have HM := hidden hM
      by_cases htt : ¬ t < xtn
      · obtain rfl : t = xtn := by omega
        rw [List.drop_of_length_le (by rw [HTL.out]; exact Nat.le_refl _), encTs] at hM
        have HM2 := hidden hM
        clear hM hbq HM
        go_wp2_with fail
        go_roundw
        case rel => exact ⟨j + 1, M, by go_num, by omega, rfl, by rw [HR.out]; simpa using HM2.out, HBL.out.trans (HBQ.out.mono HBL.out.size)⟩
        case measure => simp [intOf]; omega
      replace htt : t < xtn := by omega
      have htt' : (t : Int) < xtn := by omega
      obtain ⟨ga, rfl, ha, -⟩ := (HTS.out.below hbq).cell t (by rw [HTL.out]; exact htt)
      have het := encTs_at xts t (by rw [HTL.out]; exact htt)
      obtain ⟨z, hz⟩ : ∃ z, xts[t]'(by rw [HTL.out]; exact htt) = z := ⟨_, rfl⟩
      rw [hz] at ha het
      obtain ⟨zt, zi, zk⟩ := z
      have a0 := ha 0 _ rfl
      have a1 := ha 1 _ rfl
      have a2 := ha 2 _ rfl
      simp only [KTr, Nat.add_zero] at a0 a1 a2
      unfold lenT at het
      simp only at het
      have hal : Below wr.heap.size wr (wr.alloc (.cells #[.int .i64 zt, .int .i64 zi, .int .i64 zk] 42)) := (Below.refl _ _).alloc (Nat.le_refl _) _
      have HB6 := hidden (HBQ.out.trans (hal.mono HBQ.out.size))
      have hMb : M ≤ 2000 := by omega
      have HET := hidden het
      clear ha hz hal hbq hM het
      by_cases hk0 : zk = 0
      · have hkb : (zk != 0) = false := by simpa using hk0
        have het := HET.out
        rw [if_neg (by simpa using hk0)] at het
        have HE2 := hidden het
        clear het HET hk0
        go_wp2_with fail
        go_roundw
        case rel => exact ⟨t + 1, M + 8, by go_num, by omega, by go_num, by have := HE2.out; have := HM.out; omega, HB6.out⟩
        case measure => simp [intOf]; omega
      · have hkb : (zk != 0) = true := by simpa using hk0
        have het := HET.out
        rw [if_pos hk0] at het
        have HE2 := hidden het
        clear het HET
        go_wp2_with fail
        go_roundw
        case rel => exact ⟨t + 1, M + 12, by go_num, by omega, by go_num, by have := HE2.out; have := HM.out; omega, HB6.out⟩
        case measure => simp [intOf]; omega
end Go.Proofs.Yteopllkjdmpacaa
