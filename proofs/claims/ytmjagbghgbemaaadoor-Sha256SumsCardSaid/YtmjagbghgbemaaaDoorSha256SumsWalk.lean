/-
  The law Sha256Sums, walked: it returns true for every input, and only adds memory of its own.
-/
import Derived.Test.YtmjagbghgbemaaaDoorSha08
import Derived.Test.YtmjagbghgbemaaaDoorRShaSum
import Derived.Test.YtmjagbghgbemaaaDoorRCompare
import Derived.Test.YtmjagbghgbemaaaDoorConcat
import Derived.Deep.Cut
import Derived.Deep.CutRange
import Derived.Deep.CutBlock
namespace Go.Proofs.YtmjagbghgbemaaaDoor
open Go.RowKit
set_option linter.unusedVariables false

theorem run_append_nil0 {P : Program} (w : World) (t u ty e : TypeId) (i : TypeInfo) (ht : P.underlying t = some (.slice e)) (hu : P.underlying u = some (.int .i64)) (hi : P.info? e = some i) (hz : i.zero = some (.int .u8 0))
    (hby : i.bytes = 1) : (Builtin.append_ #[t, u] ty #[.slice none 0 0, .int .i64 0]).run P w = .ok (.slice none 0 0) w := by
  have ha : ∀ (z : Int) (w' : World), (asInt (.int .i64 z)).run P w' = .ok z w' := fun z w' => by simp [asInt, asIntOf]
  have hw0 : IntKind.i64.wrap 0 = 0 := by decide
  simp [Builtin.append_, run_underlying ht, run_underlying hu, sizeOf, typeInfo, zeroValue, hz, hi, hby, ha, hw0, Question.forced, newRow, Builtin.firstCells]
theorem wpList_append_nil0 {P : Program} {w : World} {ops : Array Oper} {rest : List Oper} {o : Oper} {a : Act} {Q : Exit → Act → World → Prop} (hgd : o.guard = none) (s x : Operand) (t u : TypeId)
    (ho : o.op = .call { callee := .builtin .append, args := #[s, x], argTypes := #[t, u] }) (e : TypeId) (i : TypeInfo) (ht : P.underlying t = some (.slice e)) (hu : P.underlying u = some (.int .i64)) (hi : P.info? e = some i) (hz : i.zero = some (.int .u8 0))
    (hby : i.bytes = 1) (hs : a.eval s = .slice none 0 0) (z : Int) (hx : a.eval x = .int .i64 z) (hzn : z = 0)
    (h : wpList P ops Q rest (a.put o.dst (.slice none 0 0)) w) : wpList P ops Q (o :: rest) a w := by
  refine wpList_plain hgd fun K hK => ?_
  subst hzn
  have hr := run_append_nil0 (P := P) w t u o.type e i ht hu hi hz hby
  unfold Oper.wp execOp
  simp only [ho, resolve, invoke, builtin, Sem.run_bind, Sem.run_pure, Result.andThen_ok, List.map_toArray, List.map_cons, List.map_nil, hs, hx, hr]
  exact hK _ _ h

set_option maxHeartbeats 3200000 in
set_option maxRecDepth 100000 in
theorem sha256Sums_walk (p : Option Addr) (n c : Nat) (xs : List Int) (zi : Int) (w : World) (h : Byt w p n c xs) (hb : c ≤ 140737488351232) (g1 : 0 ≤ zi ∧ zi ≤ 255) (hK : KAt w) :
    Calls Tryd.prog 4 #[.slice p n c, .int .u8 zi] w fun e w' => e = .returned (.bool true) ∧ Below w.heap.size w w' := by
  have HA := hidden (awake08_any w hK)
  have HX := hidden h
  have HK := hidden hK
  have hcm := h.cap
  obtain ⟨i0, hi, hz0, hz1, hz2⟩ := info_parts Tryd.infoByte
  obtain ⟨z, hz⟩ := Int.eq_ofNat_of_zero_le (show 0 ≤ zi % 130 by omega)
  have hzb : z ≤ 129 := by omega
  clear h hK
  go_enter Tryd.func4, Tryd.ntmps4
  go_upto_if 10 with (first
    | (go_at_call 13; (with_reducible refine (HA.out).mono ?_); rintro e w1 ⟨rfl, hb⟩; have HB1 := hidden hb; clear hb)
    | fail)
  go_cut [0] from 6 to 12 (fun a wx => ∃ m, a = .slice p m c ∧ m ≤ 4000 ∧ Byt w p m c (xs.take m) ∧ Below w.heap.size w wx)
  case first =>
    by_cases hlt : n ≤ 4000
    · have h1 : ¬ (4000 : Int) < n := by omega
      have HF := hidden HX.out
      have hx := HF.out.len
      go_wp2
      go_meet
      case rel => exact ⟨n, rfl, hlt, by rw [List.take_of_length_le (by omega)]; exact HF.out, HB1.out⟩
    · have h1 : (4000 : Int) < n := by omega
      have h2 : (4000 : Int) ≤ c := by omega
      have HF := hidden (HX.out.front 4000 (by omega))
      go_wp2
      go_meet
      case rel => exact ⟨4000, rfl, by omega, HF.out, HB1.out⟩
  case rest =>
    obtain ⟨m, rfl, hm, hY0, hBc⟩ := hcut
    have hyl := hY0.len
    generalize xs.take m = ys at hY0 hyl
    have HY0 := hidden hY0
    have HY := hidden (hY0.below hBc)
    have HBC := hidden hBc
    have HYL := Is.mk hyl
    have HYR := hidden hY0.rng
    have hmc := hY0.cap
    clear hY0 hBc hyl HX HA HB1
    go_upto_region 5 with fail
    go_cut [5] from 13 to 18 (fun v wx => Own wx w.heap.size 5 v (ys ++ List.replicate z 0) ∧ Below w.heap.size w wx)
    case first =>
      go_wp2_with (first
        | (at_builtin; refine wpList_append_byt _ rfl (.const (.slice none 0 0)) (.tmp 13) 22 rfl w.heap.size 5 i0 (.int .u8 0) Tryd.underlying22 hi hz0 hz1 hz2 rfl _ _ rfl (Own.nil _ w.heap.size 5) _ _ _ _ _ rfl HY.out rfl ?b1 HBC.out.size ?_; case b1 => (simp; omega))
        | fail)
      intro u w2 hown hg
      have HB2 := hidden (HBC.out.grown hg HBC.out.size (nob _))
      have hlen := HYL.eq
      rcases hown.2 with ⟨hv, h0⟩ | ⟨gg, cap, cur, hv, hbg, hg', hnc, hcap, hcs, htake⟩
      · have hy0 : ys = [] := List.eq_nil_of_length_eq_zero (by simpa using h0)
        have hv' : u = .slice none 0 0 := by simpa using hv
        subst hv'
        clear hv hown hg
        by_cases hz0' : z = 0
        · have hz' : zi % 130 = 0 := by omega
          have HR : Hid (Own w2 w.heap.size 5 (.slice none 0 0) (ys ++ List.replicate z 0)) := by
            rw [hy0, hz0']
            exact Own.nil _ _ _
          clear hz hy0 hz0' hlen
          go_wp2_with (first
            | (at_builtin; refine wpList_append_nil0 rfl _ _ 22 3 rfl 5 i0 Tryd.underlying22 Tryd.underlying3 hi hz0 hz2 rfl _ rfl hz' ?_)
            | fail)
          go_wp2
          go_meet
          case rel => exact ⟨HR.out, HB2.out⟩
        · have HY0' := Is.mk hy0
          clear hy0 hlen
          go_wp2_with (first
            | (at_builtin; refine wpList_append_nilz _ rfl _ _ 22 3 rfl w.heap.size 5 i0 Tryd.underlying22 Tryd.underlying3 hi hz0 hz1 hz2 rfl _ z rfl hz hz0' (by omega) HB2.out.size ?_)
            | fail)
          intro cc w3 hown3 hg3
          have HO3 := hidden hown3
          have HB3 := hidden (HB2.out.grown hg3 HB2.out.size (by simp))
          clear hown3 hg3
          go_wp2
          go_meet
          case rel => exact ⟨by rw [HY0'.eq]; exact HO3.out, HB3.out⟩
      · have hv' : u = .slice (some ⟨gg, 0, none⟩) ys.length cap := by simpa using hv
        subst hv'
        have HO := hidden hown
        clear hv hown hg hg' hnc hcap hcs htake
        go_wp2_with (first
          | (at_builtin; refine wpList_append_zeros _ rfl _ _ 22 3 rfl w.heap.size 5 i0 Tryd.underlying22 Tryd.underlying3 hi hz0 hz1 hz2 gg ys.length cap ys rfl HO.out rfl _ z rfl hz (by omega) (by omega) HB2.out.size ?_)
          | fail)
        intro v w3 hown3 hg3
        have HO3 := hidden hown3
        have HB3 := hidden (HB2.out.grown hg3 HB2.out.size (fun k hk => by cases hk; exact hbg))
        clear hown3 hg3
        go_wp2
        go_meet
        case rel => exact ⟨HO3.out, HB3.out⟩
    case rest =>
      obtain ⟨hown, hbw⟩ := hcut
      have hzr : ∀ x ∈ ys ++ List.replicate z 0, 0 ≤ x ∧ x ≤ 255 := by
        intro x hx
        rcases List.mem_append.1 hx with hx | hx
        · exact HYR.out x hx
        · have := List.eq_of_mem_replicate hx
          subst this
          omega
      have hzl : (ys ++ List.replicate z 0).length = m + z := by rw [List.length_append, List.length_replicate, HYL.eq]
      generalize ys ++ List.replicate z 0 = zs at hown hzr hzl
      obtain ⟨M, hM⟩ : ∃ M, m + z = M := ⟨_, rfl⟩
      rw [hM] at hzl
      have hMb : M ≤ 4129 := by omega
      obtain ⟨q, d, rfl, hbyt⟩ := hown.bytN rfl hzl hzr
      have HSL : Is (shaS ys).length 32 := ⟨shaS_len ys⟩
      have HSR : Hid (∀ x ∈ shaS ys, 0 ≤ x ∧ x ≤ 255) := shaS_rng ys
      have HTL : Is (shaS zs).length 32 := ⟨shaS_len zs⟩
      have HTR : Hid (∀ x ∈ shaS zs, 0 ≤ x ∧ x ≤ 255) := shaS_rng zs
      have HS : Hid (∀ W, Below w.heap.size w W → Calls Tryd.prog 15 #[.slice p m c] W (BytesPut W (shaS ys))) := fun W hW => sum_any p m c ys W (HY0.out.below hW) (by omega) (HK.out.below hW HK.out.lt)
      have HT : Hid (∀ W, Below w.heap.size w W → Byt W q M d zs → Calls Tryd.prog 15 #[.slice q M d] W (BytesPut W (shaS zs))) := fun W hW hB => sum_any q M d zs W hB (by omega) (HK.out.below hW HK.out.lt)
      have HRS : Hid (∀ W, Below w.heap.size w W → Calls Tryd.prog 16 #[.slice p m c] W fun e w' => ∃ v, e = .returned v ∧ Own w' W.heap.size 5 v (shaS ys) ∧ Below W.heap.size W w') := fun W hW => rsum_any p m c ys W (HY0.out.below hW) (by omega)
      have HRT : Hid (∀ W, Byt W q M d zs → Calls Tryd.prog 16 #[.slice q M d] W fun e w' => ∃ v, e = .returned v ∧ Own w' W.heap.size 5 v (shaS zs) ∧ Below W.heap.size W w') := fun W hB => rsum_any q M d zs W hB (by omega)
      have HE : Hid (∀ W q1 q2 d1 d2 (E : List Int), Byt W q1 32 d1 E → Byt W q2 32 d2 E → Calls Tryd.prog 14 #[.slice q1 32 d1, .slice q2 32 d2] W fun e w' => e = .returned (.bool true) ∧ ∃ r, w' = W.drewN r) := fun W q1 q2 d1 d2 E h1 h2 => by
        have := requal_any q1 q2 32 d1 32 d2 E E W h1 h2
        rwa [show decide (E = E) = true from decide_eq_true rfl] at this
      generalize shaS ys = S at HS HRS HSL HSR
      generalize shaS zs = T at HT HRT HTL HTR
      have HZ := hidden hbyt
      have HB := hidden hbw
      clear hown hzr hbyt hbw hz g1 hcm hb HY HBC HY0 HYL HYR HK hM
      go_upto_region 6 with fail
      go_wp2_with (first
        | (go_at_call 15; (with_reducible refine (HS.out _ HB.out).mono ?_); rintro _ w2 ⟨v2, rfl, hown2, hbel2⟩; obtain ⟨q2, d2, rfl, hbyt2⟩ := hown2.bytN rfl HSL.eq HSR.out; have HB2 := hidden (HB.out.trans (hbel2.mono HB.out.size)); have HZ2 := hidden (HZ.out.below hbel2); have H2 := hidden hbyt2; clear hown2 hbel2 hbyt2)
        | (go_at_call 16; (with_reducible refine (HRS.out _ HB2.out).mono ?_); rintro _ w3 ⟨v3, rfl, hown3, hbel3⟩; obtain ⟨q3, d3, rfl, hbyt3⟩ := hown3.bytN rfl HSL.eq HSR.out; have HB3 := hidden (HB2.out.trans (hbel3.mono HB2.out.size)); have HZ3 := hidden (HZ2.out.below hbel3); have H32 := hidden (H2.out.below hbel3); have H33 := hidden hbyt3; clear hown3 hbel3 hbyt3)
        | (go_at_call 14; (with_reducible refine (HE.out _ _ _ _ _ S H32.out H33.out).mono ?_); rintro _ w4 ⟨rfl, r4, rfl⟩; have HB4 := hidden (HB3.out.trans (below_drewN r4)); have HZ4 := hidden (HZ3.out.below (below_drewN r4)))
        | (go_at_call 15; (with_reducible refine (HT.out _ HB4.out HZ4.out).mono ?_); rintro _ w5 ⟨v5, rfl, hown5, hbel5⟩; obtain ⟨q5, d5, rfl, hbyt5⟩ := hown5.bytN rfl HTL.eq HTR.out; have HB5 := hidden (HB4.out.trans (hbel5.mono HB4.out.size)); have HZ5 := hidden (HZ4.out.below hbel5); have H5 := hidden hbyt5; clear hown5 hbel5 hbyt5)
        | (go_at_call 16; (with_reducible refine (HRT.out _ HZ5.out).mono ?_); rintro _ w6 ⟨v6, rfl, hown6, hbel6⟩; obtain ⟨q6, d6, rfl, hbyt6⟩ := hown6.bytN rfl HTL.eq HTR.out; have HB6 := hidden (HB5.out.trans (hbel6.mono HB5.out.size)); have H65 := hidden (H5.out.below hbel6); have H66 := hidden hbyt6; clear hown6 hbel6 hbyt6)
        | (go_at_call 14; (with_reducible refine (HE.out _ _ _ _ _ T H65.out H66.out).mono ?_); rintro _ w7 ⟨rfl, r7, rfl⟩; have HB7 := hidden (HB6.out.trans (below_drewN r7)))
        | fail)
      go_ret
      exact ⟨rfl, HB7.out⟩
end Go.Proofs.YtmjagbghgbemaaaDoor
