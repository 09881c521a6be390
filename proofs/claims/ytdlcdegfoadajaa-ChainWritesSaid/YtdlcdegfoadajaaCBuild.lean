/-
  What chain.Build returns: the bytes of the payloads, or the first error.
-/
import Derived.Test.YtdlcdegfoadajaaRBuild3
import Derived.Test.YtdlcdegfoadajaaWPut
import Derived.Deep.RegionLaw
namespace Go.Proofs.Ytdlcdegfoadajaa
open Go.RowKit
set_option linter.unusedVariables false

theorem ends_take (l : List Raw) (j : Nat) (h : j < l.length) : endsC (l.take (j + 1)) = lastK l[j].k := by
  rw [ends_last _ (by rw [List.length_take]; omega)]
  have : (l.take (j + 1)).length - 1 = j := by rw [List.length_take]; omega
  simp only [this, List.getElem_take]

theorem put_one (p : Option Addr) (n c : Nat) (xs : List Int) (w : World) (h : Byt w p n c xs) (hb : n ≤ 140737488355000) (v : Int) (hv : 0 ≤ v ∧ v ≤ 255) :
    Calls Try.prog 36 #[.slice p n c, .int .u64 v, .int .i64 1] w (BytesPut w (xs ++ [v])) := by
  have := put_yes p n c xs w h hb v (by omega) 1 (by omega) (by omega)
  have e : be 1 v = [v] := by
    rw [be1]
    congr 1
    omega
  rw [e] at this
  exact this
theorem put_two (p : Option Addr) (n c : Nat) (xs : List Int) (w : World) (h : Byt w p n c xs) (hb : n ≤ 140737488355000) (v : Int) (hv : 0 ≤ v ∧ v ≤ 18446744073709551615) :
    Calls Try.prog 36 #[.slice p n c, .int .u64 v, .int .i64 2] w (BytesPut w (xs ++ be 2 v)) := put_yes p n c xs w h hb v hv 2 (by omega) (by omega)

set_option maxHeartbeats 800000 in
theorem head_any (k : Int) (c : Bool) (pb : Option Addr) (nb cb : Nat) (nx : Int) (w : World) (hn : nb ≤ 65531) (hx : 0 ≤ nx ∧ nx ≤ 255) :
    Calls Try.prog 31 #[.agg #[.int .i64 k, .bool c, .slice pb nb cb], .int .i64 nx] w (BytesPut w ([nx, if c then 128 else 0] ++ be 2 ((nb : Int) + 4))) := by
  have hx0 := hx.1
  have hx1 := hx.2
  have HP1 := hidden (fun w => put_one none 0 0 [] w (Byt.nil _ _ _ (Nat.zero_le _)) (by omega) nx hx)
  have hb0 := (Below.refl w.heap.size w).alloc (Nat.le_refl _) (.cells #[.int .i64 k, .bool c, .slice pb nb cb] 43)
  have HB0 := hidden hb0
  have hw1 : w.heap.size < (w.alloc (.cells #[.int .i64 k, .bool c, .slice pb nb cb] 43)).heap.size := by simp
  have HC := hidden (show (w.alloc (.cells #[.int .i64 k, .bool c, .slice pb nb cb] 43)).cell? ⟨w.heap.size, 2, none⟩ = some (.slice pb nb cb) by go_simp)
  obtain ⟨bv, hbv, hb1⟩ : ∃ bv : Int, (if c then (128 : Int) else 0) = bv ∧ (0 ≤ bv ∧ bv ≤ 255) := ⟨_, rfl, by split <;> omega⟩
  rw [hbv]
  have HBV := hidden hbv
  clear hbv hb0 hx
  go_enter Try.func31, Try.ntmps31
  go_upto_if 8 with fail
  go_cut [5] from 7 to 8 (fun a w' => a = .int .i64 bv ∧ w.alloc (.cells #[.int .i64 k, .bool c, .slice pb nb cb] 43) = w')
  case first =>
    have h := HBV.out
    clear HBV
    cases c
    all_goals
      simp at h
      subst h
      go_wp2
      go_meet
      case rel => exact ⟨rfl, rfl⟩
  case rest =>
    obtain ⟨rfl, rfl⟩ := hcut
    go_wp2_with (go_at_call 36; (with_reducible refine (HP1.out _).mono ?_))
    rintro e w2 ⟨v2, rfl, hown, hb⟩
    have HC2 := hidden (cell_below hb _ _ HC.out)
    have HB2 := hidden (HB0.out.trans (hb.mono HB0.out.size))
    obtain ⟨p2, c2, rfl, hy⟩ := hown.bytN (N := 1) rfl rfl (by intro z hz; simp at hz; omega)
    have HY2 := hidden hy
    clear hown hb hy HC HB0 HP1
    have HP2 := hidden (fun w (h : Byt w p2 1 c2 ([] ++ [nx])) => put_one p2 1 c2 ([] ++ [nx]) w h (by omega) bv hb1)
    go_wp2_with (go_at_call 36; (with_reducible refine (HP2.out _ HY2.out).mono ?_))
    rintro e w3 ⟨v3, rfl, hown, hb⟩
    have hc3 := cell_below hb _ _ HC2.out
    have HB3 := hidden (HB2.out.trans (hb.mono HB2.out.size))
    obtain ⟨p3, c3, rfl, hy⟩ := hown.bytN (N := 2) rfl rfl (by intro z hz; simp at hz; omega)
    have HY3 := hidden hy
    clear hown hb hy HC2 HB2 HP2 HY2
    have HP3 := hidden (fun w (h : Byt w p3 2 c3 ([] ++ [nx] ++ [bv])) => put_two p3 2 c3 ([] ++ [nx] ++ [bv]) w h (by omega) (4 + (nb : Int)) (by omega))
    go_wp2_with (go_at_call 36; (with_reducible refine (HP3.out _ HY3.out).mono ?_))
    rintro e w4 ⟨v4, rfl, hown, hb⟩
    have HB4 := hidden (HB3.out.trans (hb.mono HB3.out.size))
    have HO4 := hidden (hown.mono HB3.out.size)
    clear hown hb hc3
    go_wp2
    go_ret
    refine ⟨v4, rfl, ?_, HB4.out⟩
    have e : ((nb : Int) + 4) = 4 + (nb : Int) := by omega
    rw [e]
    simpa using HO4.out

set_option maxHeartbeats 1600000 in
set_option maxRecDepth 100000 in
theorem check_any (p : Option Addr) (n c : Nat) (l : List RawP) (last : Int) (w : World) (h : RdR w p n c l) (k : Int) (L : List Int) (E : Int) (hb : buildC (l.map RawP.raw) last = (k, L, E)) :
    Calls Try.prog 30 #[.slice p n c, .int .i64 last] w fun e w' => e = .returned (.int .i64 E) ∧ Below w.heap.size w w' := by
  have hn := h.le
  have HR := hidden h
  have HL := hidden h.len
  have HB := hidden hb
  clear h hb
  by_cases h40 : 40 < n
  · have hb := built_many (l.map RawP.raw) last (by rw [List.length_map, HL.out]; exact h40)
    rw [HB.out] at hb
    simp at hb
    obtain ⟨rfl, rfl, rfl⟩ := hb
    go_enter Try.func30, Try.ntmps30
    go_wp2
    go_ret
    exact ⟨rfl, Below.refl _ _⟩
  have h40' : ¬ 40 < (l.map RawP.raw).length := by rw [List.length_map, HL.out]; exact h40
  have H40 := hidden h40'
  clear h40'
  go_enter Try.func30, Try.ntmps30
  go_wp2
  go_loopw [5, 13] (fun o i wr => ∃ j : Nat, j ≤ n ∧ i = .int .i64 j ∧ o = .bool (endsC ((l.map RawP.raw).take j)) ∧ errC (l.map RawP.raw) = errC ((l.map RawP.raw).drop j) ∧ Below w.heap.size w wr) (fun _ i _ => n - (intOf i).toNat)
  case atStart => exact ⟨0, by omega, rfl, by simp [endsC], by simp, Below.refl _ _⟩
  case round =>
    obtain ⟨j, hj, rfl, rfl, herr, hbl⟩ := hrel
    have HBL := hidden hbl
    by_cases hlt : j < n
    · obtain ⟨g, kk, cc, pb, nb, cb, b, rfl, hat⟩ := HR.out.get j hlt
      have e1 := hat.err HL.out
      rw [← herr] at e1
      have HE := hidden e1
      have c0 := cell_below hbl _ _ hat.hk
      have c1 := cell_below hbl _ _ hat.hc
      have c2 := cell_below hbl _ _ hat.hb
      have hnb := hat.byt.le
      have het : endsC ((l.map RawP.raw).take (j + 1)) = lastK kk := by
        obtain ⟨hi, he⟩ := List.getElem?_eq_some_iff.1 hat.raw
        rw [ends_take _ j hi, he]
      have HET := hidden het
      have HBX := hidden (HBL.out.alloc HBL.out.size (.cells #[.int .i64 kk, .bool cc, .slice pb nb cb] 43))
      have HW := hidden (fun w => wraps_any kk w)
      clear hat e1 herr hbl het
      by_cases k1 : kk < 1
      · have hb := built_err (l.map RawP.raw) last 5 H40.out (by rw [HE.out, if_pos (Or.inl k1)]) (by omega)
        rw [HB.out] at hb
        simp at hb
        obtain ⟨rfl, rfl, rfl⟩ := hb
        go_wp2_with (go_at_call 35; (with_reducible refine (HW.out _).mono ?_); rintro e w' ⟨rfl, rfl⟩)
        go_ret
        exact ⟨rfl, HBX.out⟩
      by_cases k2 : 255 < kk
      · have hb := built_err (l.map RawP.raw) last 5 H40.out (by rw [HE.out, if_pos (Or.inr k2)]) (by omega)
        rw [HB.out] at hb
        simp at hb
        obtain ⟨rfl, rfl, rfl⟩ := hb
        go_wp2_with (go_at_call 35; (with_reducible refine (HW.out _).mono ?_); rintro e w' ⟨rfl, rfl⟩)
        go_ret
        exact ⟨rfl, HBX.out⟩
      by_cases k3 : 65531 < nb
      · have hb := built_err (l.map RawP.raw) last 11 H40.out (by rw [HE.out, if_neg (by omega), if_pos k3]) (by omega)
        rw [HB.out] at hb
        simp at hb
        obtain ⟨rfl, rfl, rfl⟩ := hb
        go_wp2_with (go_at_call 35; (with_reducible refine (HW.out _).mono ?_); rintro e w' ⟨rfl, rfl⟩)
        go_ret
        exact ⟨rfl, HBX.out⟩
      by_cases k4 : lastK kk = true
      · by_cases k5 : j + 1 < n
        · have hb := built_err (l.map RawP.raw) last 7 H40.out (by rw [HE.out, if_neg (by omega), if_neg k3, if_pos ⟨k4, k5⟩]) (by omega)
          rw [HB.out] at hb
          simp at hb
          obtain ⟨rfl, rfl, rfl⟩ := hb
          go_wp2_with (go_at_call 35; (with_reducible refine (HW.out _).mono ?_); rintro e w' ⟨rfl, rfl⟩)
          go_ret
          exact ⟨rfl, HBX.out⟩
        · have he := HE.out
          rw [if_neg (by omega), if_neg k3, if_neg (fun h => k5 h.2)] at he
          have HE2 := hidden he
          clear he
          go_wp2_with (go_at_call 35; (with_reducible refine (HW.out _).mono ?_); rintro e w' ⟨rfl, rfl⟩)
          go_roundw
          case rel => exact ⟨j + 1, by omega, by go_num, by rw [HET.out]; simp [k4], HE2.out, HBX.out⟩
          case measure => simp [intOf]; omega
      · have k5 : lastK kk = false := by simpa using k4
        have he := HE.out
        rw [if_neg (by omega), if_neg k3, if_neg (fun h => k4 h.1)] at he
        have HE2 := hidden he
        clear he k4
        go_wp2_with (go_at_call 35; (with_reducible refine (HW.out _).mono ?_); rintro e w' ⟨rfl, rfl⟩)
        go_roundw
        case rel => exact ⟨j + 1, by omega, by go_num, by rw [HET.out]; simp [k5], HE2.out, HBX.out⟩
        case measure => simp [intOf]; omega
    · obtain rfl : j = n := by omega
      have herr0 : errC (l.map RawP.raw) = 0 := by rw [herr, err_end _ (by rw [List.length_map, HL.out]; exact Nat.le_refl _)]
      rw [List.take_of_length_le (by rw [List.length_map, HL.out]; exact Nat.le_refl _)]
      have HE := hidden herr0
      clear herr herr0 hbl
      by_cases hl0 : last < 0
      · have hb := built_last (l.map RawP.raw) last H40.out HE.out (Or.inl hl0)
        rw [HB.out] at hb
        simp at hb
        obtain ⟨rfl, rfl, rfl⟩ := hb
        go_wp2
        go_ret
        exact ⟨rfl, HBL.out⟩
      by_cases hl1 : 255 < last
      · have hb := built_last (l.map RawP.raw) last H40.out HE.out (Or.inr hl1)
        rw [HB.out] at hb
        simp at hb
        obtain ⟨rfl, rfl, rfl⟩ := hb
        go_wp2
        go_ret
        exact ⟨rfl, HBL.out⟩
      by_cases hz : last = 0
      · have hb := built_ok (l.map RawP.raw) last H40.out HE.out (by omega) (Or.inl hz)
        rw [HB.out] at hb
        simp at hb
        obtain ⟨rfl, rfl, rfl⟩ := hb
        have hz1 : (last != 0) = false := by simpa using hz
        clear hz
        go_wp2
        go_ret
        exact ⟨rfl, HBL.out⟩
      have hz1 : (last != 0) = true := by simpa using hz
      rcases he : endsC (l.map RawP.raw) with _ | _
      · have hb := built_order (l.map RawP.raw) last H40.out HE.out (by omega) hz he
        rw [HB.out] at hb
        simp at hb
        obtain ⟨rfl, rfl, rfl⟩ := hb
        clear hz he
        go_wp2
        go_ret
        exact ⟨rfl, HBL.out⟩
      · have hb := built_ok (l.map RawP.raw) last H40.out HE.out (by omega) (Or.inr he)
        rw [HB.out] at hb
        simp at hb
        obtain ⟨rfl, rfl, rfl⟩ := hb
        clear hz he
        go_wp2
        go_ret
        exact ⟨rfl, HBL.out⟩

set_option maxHeartbeats 1600000 in
set_option maxRecDepth 100000 in
theorem buildC_any (p : Option Addr) (n c : Nat) (l : List RawP) (last : Int) (w : World) (h : RdR w p n c l) (k : Int) (L : List Int) (E : Int) (hb : buildC (l.map RawP.raw) last = (k, L, E)) :
    Calls Try.prog 19 #[.slice p n c, .int .i64 last] w (BuiltC w k L E) := by
  obtain ⟨i0, hi0, hz0, hz1, hz2⟩ := info_parts Try.infoByte
  have hn := h.le
  have HCK := hidden (check_any p n c l last w h k L E hb)
  by_cases hE : E ≠ 0
  · obtain ⟨rfl, rfl⟩ : k = 0 ∧ L = [] := by
      unfold buildC at hb
      split at hb
      · simp at hb; exact ⟨hb.1.symm, hb.2.1⟩
      split at hb
      · simp at hb; exact ⟨hb.1.symm, hb.2.1⟩
      split at hb
      · simp at hb; exact ⟨hb.1.symm, hb.2.1⟩
      split at hb
      · simp at hb; exact ⟨hb.1.symm, hb.2.1⟩
      · simp at hb; exact absurd hb.2.2.symm hE
    have hE1 : (E != 0) = true := by simpa using hE
    clear h hb hE
    go_enter Try.func19, Try.ntmps19
    go_wp2_with (go_at_call 30; (with_reducible refine (HCK.out).mono ?_); rintro e w' ⟨rfl, hb⟩)
    go_ret3
    exact ⟨_, rfl, Own.nil _ _ _, hb⟩
  obtain rfl : E = 0 := by omega
  obtain ⟨herr, h40, rfl, rfl, hl0, hl1⟩ : errC (l.map RawP.raw) = 0 ∧ (l.map RawP.raw).length ≤ 40 ∧ k = nextC 0 (l.map RawP.raw) ∧ L = encC last (l.map RawP.raw) ∧ 0 ≤ last ∧ last ≤ 255 := by
    unfold buildC at hb
    split at hb
    · simp at hb
    split at hb
    · simp at hb; omega
    split at hb
    · simp at hb
    split at hb
    · simp at hb
    · simp at hb; exact ⟨by omega, by omega, hb.1.symm, hb.2.symm, by omega, by omega⟩
  have hlast0 : l = [] → last = 0 := by
    intro he
    subst he
    unfold buildC at hb
    by_cases h0 : last = 0
    · exact h0
    · simp [errC, endsC, h0] at hb
      split at hb
      · simp at hb
      · simp at hb
  have HR := hidden h
  have HL := hidden h.len
  have HE := hidden herr
  have HL0 := hidden hlast0
  have hn40 : n ≤ 40 := by rw [← h.len]; simpa using h40
  clear h hb hE herr h40 hlast0
  go_enter Try.func19, Try.ntmps19
  go_wp2_with (go_at_call 30; (with_reducible refine (HCK.out).mono ?_))
  rintro e w1 ⟨rfl, hb⟩
  have HB1 := hidden hb
  clear hb HCK
  go_wp2
  go_loopw [8, 19] (fun u i wr => ∃ t : Nat, t ≤ n ∧ i = .int .i64 t ∧ ∃ xs : List Int, xs ++ encC last ((l.map RawP.raw).drop t) = encC last (l.map RawP.raw) ∧ xs.length ≤ t * 65535 ∧ (∀ x ∈ xs, 0 ≤ x ∧ x ≤ 255) ∧ Own wr w.heap.size 5 u xs ∧ Below w.heap.size w wr) (fun _ i _ => n - (intOf i).toNat)
  case atStart => exact ⟨0, by omega, rfl, [], by simp, by simp, by simp, Own.nil _ _ _, HB1.out⟩
  case round =>
    obtain ⟨t, ht, rfl, xs, hxs, hxl, hxr, ho, hbl⟩ := hrel
    have HO := hidden ho
    have HBL := hidden hbl
    by_cases hlt : t < n
    · obtain ⟨g, kk, cc, pb, nb, cb, b, rfl, hat⟩ := HR.out.get t hlt
      obtain ⟨q1, q2, q3⟩ := hat.good HE.out
      have hst := hat.enc last
      rw [hst] at hxs
      have hat2 := hat.below hbl
      have c0 := hat2.hk
      have c1 := hat2.hc
      have c2 := hat2.hb
      have HBY := hidden hat.byt
      obtain ⟨nx, hnx, hn0, hn1, hcall⟩ : ∃ nx, nextC last ((l.map RawP.raw).drop (t + 1)) = nx ∧ 0 ≤ nx ∧ nx ≤ 255 ∧ ∀ w', Below w.heap.size w w' → Calls Try.prog 32 #[.slice (some ⟨g, 0, none⟩) n c, .int .i64 ((t : Int) + 1), .int .i64 last] w' (fun e w'' => e = .returned (.int .i64 nx) ∧ w' = w'') := by
        by_cases h1 : t + 1 < n
        · obtain ⟨g3, k3, c3, p3, n3, cb3, b3, hg3, hat3⟩ := HR.out.get (t + 1) h1
          obtain ⟨r1, r2, r3⟩ := hat3.good HE.out
          obtain ⟨hi, he⟩ := List.getElem?_eq_some_iff.1 hat3.raw
          refine ⟨k3, hat3.next last, by omega, r2, fun w' hb => ?_⟩
          have := typeAt_in _ n c l w' (HR.out.below hb) (t + 1) (by rw [HL.out]; exact h1) last k3 (by simpa [RawP.raw] using congrArg Raw.k he)
          exact this
        · refine ⟨last, next_end t (by rw [List.length_map, HL.out]; omega), by omega, by omega, fun w' hb => ?_⟩
          have := typeAt_out (some ⟨g, 0, none⟩) n c w' hn (t + 1) (by omega) last
          exact this
      have HT := hidden hcall
      rw [hnx] at hxs
      have hxs2 : (xs ++ oneC nx ⟨kk, cc, b⟩) ++ encC last ((l.map RawP.raw).drop (t + 1)) = encC last (l.map RawP.raw) := by rw [List.append_assoc]; exact hxs
      have HXS := hidden hxs2
      have hxl2 : (xs ++ oneC nx ⟨kk, cc, b⟩).length ≤ (t + 1) * 65535 := by
        have := hat.byt.len
        rw [List.length_append, oneC_len]
        simp only
        omega
      have HXL := hidden hxl2
      have HXR2 := hidden (rng_append hxr (oneC_rng nx kk cc b hat.byt.rng))
      have hj40 : t * 65535 ≤ 2621400 := by omega
      have enx : nx % 256 = nx := by omega
      have hfo := oneC_form nx kk cc b xs nb hat.byt.len
      rw [enx] at hfo
      have hhd := fun w => head_any kk cc pb nb cb nx w q3 ⟨hn0, hn1⟩
      obtain ⟨bv, hbv, hbv0⟩ : ∃ bv : Int, (if cc then (128 : Int) else 0) = bv ∧ (0 ≤ bv ∧ bv ≤ 255) := ⟨_, rfl, by split <;> omega⟩
      rw [hbv] at hfo
      simp only [hbv] at hhd
      have HFO := hidden hfo
      have HHD := hidden hhd
      have HHR := hidden (show ∀ x ∈ [nx, bv] ++ be 2 ((nb : Int) + 4), 0 ≤ x ∧ x ≤ 255 from rng_append (by intro z hz; simp at hz; rcases hz with rfl | rfl <;> omega) (be_rng _ _))
      clear hbv hhd
      have hwi : IntKind.i64.wrap ((t : Int) + 1) = (t : Int) + 1 := wraps_i64 _ (by omega) (by omega)
      have HBX := hidden (HBL.out.alloc HBL.out.size (.cells #[.int .i64 kk, .bool cc, .slice pb nb cb] 43))
      have HOX := hidden (HO.out.alloc (.cells #[.int .i64 kk, .bool cc, .slice pb nb cb] 43))
      have hgr := HBL.out.size
      have hneq : some wr.heap.size ≠ u8.ownBlock := fun e => by
        have := (ho.lt _ e.symm).2
        omega
      clear hst hxs hxs2 hxl2 hat hat2 hnx enx ho hbl hxr hfo hcall
      go_wp2
      have d0 : (wr.alloc (.cells #[.int .i64 kk, .bool cc, .slice pb nb cb] 43)).cell? ⟨wr.heap.size, 0, none⟩ = some (.int .i64 kk) := by go_simp
      have d1 : (wr.alloc (.cells #[.int .i64 kk, .bool cc, .slice pb nb cb] 43)).cell? ⟨wr.heap.size, 1, none⟩ = some (.bool cc) := by go_simp
      have d2 : (wr.alloc (.cells #[.int .i64 kk, .bool cc, .slice pb nb cb] 43)).cell? ⟨wr.heap.size, 2, none⟩ = some (.slice pb nb cb) := by go_simp
      generalize wr.alloc (.cells #[.int .i64 kk, .bool cc, .slice pb nb cb] 43) = wa at *
      generalize wr.heap.size = X at *
      have HBD := hidden HBX.out.drew
      have hl4 : ([nx, bv] ++ be 2 ((nb : Int) + 4)).length = 4 := by simp [be_len]
      have HL4 := hidden hl4
      have hXs := World.block_lt_of_cell? wa _ d2
      clear c0 c1 c2 HBL HO hl4
      go_region_law (first
        | (go_simp; go_at_call 32; (with_reducible refine (HT.out _ HBD.out).mono ?_); rintro e w' ⟨rfl, rfl⟩)
        | (go_simp; go_at_call 31; (with_reducible refine (HHD.out _).mono ?_); rintro e w3 ⟨v3, rfl, hown3, hb3⟩; obtain ⟨p3, c3, rfl, hy3⟩ := hown3.bytN (N := 4) rfl HL4.out HHR.out)
        | (refine step_append_byt _ (by rfl) (.tmp 24) (.tmp 31) 22 (by rfl) w.heap.size 5 i0 (.int .u8 0) Try.underlying22 hi0 hz0 hz1 hz2 rfl _ _ (by rfl) (HOX.out.drew.below hb3) _ _ _ _ _ (by rfl) hy3 (by rfl) (by omega) (by have := HBD.out.size; have := hb3.size; omega) ?_; intro u' w4 hown4 hg4))
      all_goals
        have hb3' := HBD.out.trans (hb3.mono HBD.out.size)
        have HB4 := hidden (hb3'.grown hg4 hb3'.size (fun g hg => (HOX.out.lt g hg).1))
        have e2 := hg4.cell (cell_below hb3 _ _ (show wa.drew.cell? _ = _ from d2)) hneq
        have HBY4 := hidden (HBY.out.below HB4.out)
        have hs4 := HB4.out.size
        have HO4 := hidden hown4
        clear hown4 hg4 hb3 hb3' hown3 hy3 d0 d1 d2 HOX HBX HBD HT HHD HHR hwi hneq
        go_wp2_with (at_builtin; go_loud (refine wpList_append_byt _ rfl _ _ 22 rfl w.heap.size 5 i0 (.int .u8 0) Try.underlying22 hi0 hz0 hz1 hz2 rfl _ _ rfl HO4.out _ _ _ _ _ rfl HBY4.out rfl ?c1 hs4 ?_))
        case c1 =>
          have := HL4.out
          simp only [List.length_append] at this ⊢
          omega
        intro v5 w5 hown5 hg5
        have HB5 := hidden (HB4.out.grown hg5 HB4.out.size (fun g hg => (HO4.out.lt g hg).1))
        have HO5 := hidden (show Own w5 w.heap.size 5 v5 (xs ++ oneC nx ⟨kk, cc, b⟩) by rw [HFO.out]; simpa using hown5)
        clear hown5 hg5 e2 hs4
        go_wp2
        go_roundw
        case rel => exact ⟨t + 1, by omega, by go_num, _, HXS.out, HXL.out, HXR2.out, HO5.out, HB5.out⟩
        case measure => simp [intOf]; omega
    · obtain rfl : t = n := by omega
      have e1 : xs = encC last (l.map RawP.raw) := by
        rw [← hxs, enc_end t (by rw [List.length_map, HL.out]; exact Nat.le_refl _), List.append_nil]
      subst e1
      have HTY := hidden (show ∀ w', Below w.heap.size w w' → Calls Try.prog 32 #[.slice p t c, .int .i64 0, .int .i64 last] w' (fun e w'' => e = .returned (.int .i64 (nextC 0 (l.map RawP.raw))) ∧ w' = w'') by
        intro w' hb
        rcases Nat.eq_zero_or_pos t with h0 | h0
        · subst h0
          have hnil : l = [] := List.eq_nil_of_length_eq_zero HL.out
          have h1 := HL0.out hnil
          subst hnil
          have := typeAt_out p 0 c w' (by omega) 0 (by omega) last
          rw [h1] at this ⊢
          exact this
        · have hpos : 0 < l.length := by rw [HL.out]; exact h0
          have hz : l[0].k = nextC 0 (l.map RawP.raw) := by
            cases l with
            | nil => simp at hpos
            | cons a l => simp [nextC, RawP.raw]
          exact typeAt_in p t c l w' (HR.out.below hb) 0 hpos last _ hz)
      clear hxs hxl hxr ho hbl
      go_wp2_with (go_at_call 32; (with_reducible refine (HTY.out _ HBL.out).mono ?_); rintro e w' ⟨rfl, rfl⟩)
      go_ret3
      exact ⟨_, rfl, HO.out, HBL.out⟩
end Go.Proofs.Ytdlcdegfoadajaa
