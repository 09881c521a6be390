/-
  The law PrfBegins, walked: it returns true for every input, and only adds memory of its own.
-/
import Derived.Test.YtnnbfhjbaagnkaaDoorPrf09
import Derived.Test.YtnnbfhjbaagnkaaDoorPrfPlus
import Derived.Test.YtnnbfhjbaagnkaaDoorPrfSplit
import Derived.Test.YtnnbfhjbaagnkaaDoorPrfZero
import Derived.Test.YtnnbfhjbaagnkaaDoorPrfNat
import Derived.Test.YtnnbfhjbaagnkaaDoorWEqual
import Derived.Deep.Cut
import Derived.Deep.CutRange
import Derived.Deep.CutBlock
import Derived.Deep.QuietTactic
import Derived.BigQuiet
namespace Go.Proofs.YtnnbfhjbaagnkaaDoor
open Go.RowKit
set_option linter.unusedVariables false

set_option maxHeartbeats 3200000 in
set_option maxRecDepth 100000 in
theorem prfBegins_walk (p0 : Option Addr) (n0 c0 : Nat) (xs0 : List Int) (p1 : Option Addr) (n1 c1 : Nat) (xs1 : List Int) (z2 z3 : Int) (p4 : Option Addr) (n4 c4 : Nat) (xs4 : List Int) (w : World) (h0 : Byt w p0 n0 c0 xs0) (r0 : c0 ≤ 140737488351232) (h1 : Byt w p1 n1 c1 xs1) (r1 : c1 ≤ 140737488351232)
    (g2 : 0 ≤ z2 ∧ z2 ≤ 255) (g3 : 0 ≤ z3 ∧ z3 ≤ 255) (h4 : Byt w p4 n4 c4 xs4) (r4 : c4 ≤ 140737488351232) (hK : KAt w) :
    Calls Tryd.prog 5 #[.slice p0 n0 c0, .slice p1 n1 c1, .int .u8 z2, .int .u8 z3, .slice p4 n4 c4] w fun e w' => e = .returned (.bool true) ∧ Below w.heap.size w w' := by
  obtain ⟨i0, hi, hz0, hz1, hz2⟩ := info_parts Tryd.infoByte
  have HA := hidden (awake09_any w hK)
  have H0 := hidden (fun W (hW : Below w.heap.size w W) => h0.below hW)
  have H1 := hidden (fun W (hW : Below w.heap.size w W) => h1.below hW)
  have H4 := hidden (fun W (hW : Below w.heap.size w W) => h4.below hW)
  have HK := hidden (fun W (hW : Below w.heap.size w W) => hK.below hW hK.lt)
  have hc0 := h0.le
  have hc1 := h1.le
  have hc4 := h4.le
  have HL0 := Is.mk h0.len
  have HL4 := Is.mk h4.len
  have HR0 := hidden h0.rng
  have HR4 := hidden h4.rng
  obtain ⟨k2, rfl⟩ := Int.eq_ofNat_of_zero_le g2.1
  obtain ⟨k3, rfl⟩ := Int.eq_ofNat_of_zero_le g3.1
  have t2 : k2 ≤ 255 := by omega
  have t3 : k3 ≤ 255 := by omega
  clear h0 h1 h4 hK g2 g3
  go_enter Tryd.func5, Tryd.ntmps5
  by_cases hs : n0 ≤ 64 ∧ n1 ≤ 300 ∧ n4 ≤ 50
  rotate_left
  · by_cases ha : (64 : Int) < n0
    · go_wp2_with (first
        | (go_at_call 7; (with_reducible refine (HA.out).mono ?_); rintro e w1 ⟨rfl, hb⟩; have HB1 := hidden hb; clear hb)
        | fail)
      go_ret
      exact ⟨rfl, HB1.out⟩
    · by_cases hb : (300 : Int) < n1
      · go_wp2_with (first
          | (go_at_call 7; (with_reducible refine (HA.out).mono ?_); rintro e w1 ⟨rfl, hb⟩; have HB1 := hidden hb; clear hb)
          | fail)
        go_ret
        exact ⟨rfl, HB1.out⟩
      · have hd : (50 : Int) < n4 := by omega
        go_wp2_with (first
          | (go_at_call 7; (with_reducible refine (HA.out).mono ?_); rintro e w1 ⟨rfl, hb⟩; have HB1 := hidden hb; clear hb)
          | fail)
        go_ret
        exact ⟨rfl, HB1.out⟩
  obtain ⟨s0, s1, s4⟩ := hs
  have e0 : ¬ (64 : Int) < n0 := by omega
  have e1 : ¬ (300 : Int) < n1 := by omega
  have e4 : ¬ (50 : Int) < n4 := by omega
  obtain ⟨N, hN⟩ : ∃ N, k2 + k3 = N := ⟨_, rfl⟩
  have hNi : (k2 : Int) + (k3 : Int) = (N : Int) := by omega
  have hN5 : N ≤ 510 := by omega
  have hkN : k2 ≤ N := by omega
  obtain ⟨KZ, hKZ⟩ : ∃ KZ, xs0 ++ List.replicate (64 - n0) 0 = KZ := ⟨_, rfl⟩
  have HKL : Hid (KZ.length = 64) := by show _ = _; rw [← hKZ, List.length_append, List.length_replicate, HL0.eq]; omega
  have HKR : Hid (∀ x ∈ KZ, 0 ≤ x ∧ x ≤ 255) := by rw [← hKZ]; exact rng_append HR0.out (rng_zeros _)
  have hBB : plusS KZ xs1 N = plusS xs0 xs1 N := by rw [← hKZ]; exact plusS_zeros xs0 xs1 (by rw [HL0.eq]; exact s0) _ (by rw [HL0.eq]; omega) N
  have hAB := plusS_take xs0 xs1 k2 N hkN
  have HBL := hidden (plusS_len xs0 xs1 N)
  have HPA : Hid (∀ W, Below w.heap.size w W → Calls Tryd.prog 12 #[.slice p0 n0 c0, .slice p1 n1 c1, .int .i64 k2] W fun e w' => ∃ p' c', e = .returned (.tuple #[.slice p' k2 c', .int .i64 0]) ∧ Byt w' p' k2 c' (plusS xs0 xs1 k2) ∧ Below W.heap.size W w') := fun W hW =>
    plus_yes p0 p1 n0 c0 n1 c1 xs0 xs1 k2 (by omega) W (H0.out W hW) (by omega) (H1.out W hW) (by omega) (HK.out W hW)
  have HPB : Hid (∀ W q d, Below w.heap.size w W → Byt W q 64 d KZ → Calls Tryd.prog 12 #[.slice q 64 d, .slice p1 n1 c1, .int .i64 N] W fun e w' => ∃ p' c', e = .returned (.tuple #[.slice p' N c', .int .i64 0]) ∧ Byt w' p' N c' (plusS xs0 xs1 N) ∧ Below W.heap.size W w') := fun W q d hW hB => by
    have := plus_yes q p1 64 d n1 c1 KZ xs1 N (by omega) W hB (by omega) (H1.out W hW) (by omega) (HK.out W hW)
    rw [hBB] at this
    exact this
  rw [← hAB] at HPA
  generalize plusS xs0 xs1 N = B at HPA HPB HBL
  have HKZ := hidden hKZ
  have hz64 : (64 : Int) - (n0 : Int) = ((64 - n0 : Nat) : Int) := by omega
  have hzz : xs0 = [] → 64 - n0 ≠ 0 := fun e => by
    have := HL0.eq
    rw [e] at this
    simp at this
    omega
  have HZZ := hidden hzz
  have HZ6 := hidden hz64
  clear hKZ hBB hAB hzz hz64 hN
  go_upto_region 6 with (first
    | (go_at_call 7; (with_reducible refine (HA.out).mono ?_); rintro e w1 ⟨rfl, hb⟩; have HB1 := hidden hb; clear hb)
    | (go_at_call 12; (with_reducible refine (HPA.out _ HB1.out).mono ?_); rintro e w2 ⟨qa, da, rfl, hya, hb⟩; have HB2 := hidden (HB1.out.trans (hb.mono HB1.out.size)); have HYA := hidden hya; clear hb hya)
    | fail)
  have HY0 := hidden (H0.out w2 HB2.out)
  clear HA HB1 HPA
  go_wp2_with (first
    | (at_builtin; refine wpList_append_byt _ rfl (.const (.slice none 0 0)) (.tmp 49) 22 rfl w2.heap.size 5 i0 (.int .u8 0) Tryd.underlying22 hi hz0 hz1 hz2 rfl _ _ rfl (Own.nil _ w2.heap.size 5) _ _ _ _ _ rfl HY0.out rfl ?b1 (Nat.le_refl _) ?_; case b1 => (simp; omega))
    | fail)
  intro u3 w3 hown hg
  have HB3 := hidden ((Below.refl w2.heap.size w2).grown hg (Nat.le_refl _) (nob _))
  have HO3 := hidden hown
  clear hown hg HY0
  go_wp2_with (first
    | (at_builtin; refine wpList_append_more rfl _ _ 22 3 rfl w2.heap.size 5 i0 Tryd.underlying22 Tryd.underlying3 hi hz0 hz1 hz2 _ xs0 rfl HO3.out _ (64 - n0) rfl HZ6.out HZZ.out (by omega) (by rw [HL0.eq]; omega) HB3.out.size KZ HKZ.out ?_)
    | fail)
  intro v4 w4 HO4 HG4
  have HB4 := hidden (HB3.out.grown HG4.out HB3.out.size (fun k hk => (HO3.out.lt k hk).1))
  obtain ⟨q4, d4, rfl, hbyt4⟩ := HO4.out.bytN rfl HKL.out HKR.out
  have H4K := hidden hbyt4
  have HBW4 := hidden (HB2.out.trans (HB4.out.mono HB2.out.size))
  have HYA4 := hidden (HYA.out.below HB4.out)
  clear hbyt4 HO4 HG4 HO3 HB3
  go_upto_region 7 with (first
    | (go_at_call 12; (with_reducible refine (HPB.out w4 _ _ HBW4.out H4K.out).mono ?_); rintro e w5 ⟨qb, db, rfl, hyb, hb⟩; have HB5 := hidden (HBW4.out.trans (hb.mono HBW4.out.size)); have HYB := hidden hyb; have HYA5 := hidden (HYA4.out.below hb); clear hb hyb)
    | fail)
  clear HYA HYA4 H4K HBW4 HB4 HB2 HPB
  have hkd : (k2 : Int) ≤ (db : Int) := by have := HYB.out.cap; omega
  have HEQ : Hid (Calls Tryd.prog 17 #[.slice qa k2 da, .slice qb k2 db] w5 fun e w' => e = .returned (.bool true) ∧ w5 = w') := by
    have := equal_any qa qb k2 da k2 db (B.take k2) (B.take k2) w5 HYA5.out (HYB.out.front k2 hkN)
    rwa [show decide (B.take k2 = B.take k2) = true from decide_eq_true rfl] at this
  have hb0 : ((0 : Int) != 0) = false := by simp
  have hb1 : ((k2 : Int) != k2) = false := by simp
  have hb2 : ((N : Int) != N) = false := by simp
  have HI0 := hidden (RowG.nil KIn NIn w5 w5.heap.size)
  go_wp2_with (first
    | (go_at_call 17; (with_reducible refine (HEQ.out).mono ?_); rintro e w6 ⟨rfl, rfl⟩)
    | fail)
  have HNSL := hidden (sz40_len xs4)
  have HNV := hidden (sz40_getD xs4)
  have HNB := hidden (sz40_bd xs4)
  have HST := hidden (sz40_step xs4)
  have HZ0 : Hid ((ints (sz40 xs4)).take 0 = []) := rfl
  have HYB5 := hidden HYB.out
  have HLEN4 := HL4.eq
  obtain ⟨ns, hns⟩ : ∃ ns, sz40 xs4 = ns := ⟨_, rfl⟩
  rw [hns] at HNSL HNV HNB HST HZ0
  clear hb0 hb1 hb2 HEQ HYA5 hkd hns HKZ HZZ HZ6 HKL HKR
  go_loopw [15, 97] (fun v i wr => ∃ j : Nat, j ≤ n4 ∧ i = .int .i64 j ∧ RowG KIn NIn wr w5.heap.size v ((ints ns).take j) ∧ Below w5.heap.size w5 wr) (fun _ i _ => n4 - (intOf i).toNat)
  case atStart => exact ⟨0, by omega, rfl, by rw [HZ0.out]; exact HI0.out, Below.refl _ _⟩
  case round =>
    obtain ⟨j, hj, rfl, hr, hb⟩ := hrel
    have HRW := hidden hr
    have HBR := hidden hb
    have HB := hidden (HB5.out.trans (hb.mono HB5.out.size))
    have HLJ : Hid (((ints ns).take j).length = j) := by show _ = _; rw [List.length_take, ints_len, HNSL.out]; omega
    clear hr hb HI0
    by_cases hlt : j < n4
    · have hlt' : (j : Int) < n4 := by omega
      obtain ⟨b, o, rfl, hcb⟩ := (H4.out wr HB.out).at_ (by omega)
      have c0 := hcb j hlt
      have hzr := rng_getD HR4.out j
      have HSJ := hidden (HST.out j (by rw [HL4.eq]; exact hlt))
      generalize xs4.getD j 0 = z at c0 hzr HSJ
      have hbz : -9223372036854775808 ≤ z % 40 ∧ z % 40 ≤ 9223372036854775807 := by omega
      have htm : z.tmod 40 = z % 40 := Int.tmod_eq_emod_of_nonneg (by omega)
      clear hcb
      go_wp2_with (first
        | (at_builtin; go_loud (refine wpList_append_g knownIn (by simp [NIn]) _ rfl _ _ rfl w5.heap.size _ ((ints ns).take j) rfl (HRW.out.alloc _) _ 1 1 [z % 40] rfl (srcIn _ (z % 40) _) (fun x hx => by rw [List.mem_singleton.1 hx]; exact hbz) ?b1 ?b2 ?b3 ?_))
        | fail)
      case b1 => rw [HLJ.out]; unfold maxLen; omega
      case b2 => rw [HLJ.out]; omega
      case b3 => have := HBR.out.size; simp; omega
      intro v6 w6 hr6 hg6
      have HB6 := hidden ((HBR.out.alloc HBR.out.size _).grown hg6 (by have := HBR.out.size; simp; omega) (fun k hk => (HRW.out.lt k hk).1))
      rw [← HSJ.out] at hr6
      have HR6 := hidden hr6
      clear hr6 hg6 HRW HBR HB
      go_wp2
      go_roundw
      case rel => exact ⟨j + 1, by omega, by go_num, HR6.out, HB6.out⟩
      case measure => simp [intOf]; omega
    · obtain rfl : j = n4 := by omega
      have hlt' : ¬ (j : Int) < j := by omega
      obtain ⟨ql, dl, rfl, hits⟩ := HRW.out.its HLJ.out
      have hta : (ints ns).take j = ints ns := List.take_of_length_le (by rw [ints_len, HNSL.out, HL4.eq]; exact Nat.le_refl _)
      rw [hta] at hits
      have HITS := hidden hits
      have HYW := hidden (HYB.out.below HBR.out)
      have HB7 := hidden (HB5.out.trans (HBR.out.mono HB5.out.size))
      have HSP := hidden (psplit_any qb ql N db j dl B (ints ns) wr HYW.out (by omega) hits (by omega))
      have HIT := hidden (fun W (hW : Below wr.heap.size wr W) => hits.below hW)
      have HYD := hidden (fun W (hW : Below wr.heap.size wr W) => HYW.out.below hW)
      have HNL : Is ns.length j := ⟨by rw [HNSL.out, HL4.eq]⟩
      have HZV := hidden (ints_getD ns)
      have HNE : Hid ((ns.take j).sum = ns.sum) := sum_all ns j (by rw [HNL.eq]; exact Nat.le_refl _)
      have hsb : ns.sum ≤ 1950 := by
        have := sum_bd ns 39 HNB.out
        rw [HNL.eq] at this
        omega
      have HNS : Hid (∀ i, (ns.take i).sum ≤ 1950) := fun i => Nat.le_trans (sum_le ns i) hsb
      have HNT := hidden (sum_le ns)
      clear hta hits HRW HLJ HST HZ0 HYB HYB5 HBR HITS
      rename World => w7
      by_cases hsum : ns.sum ≤ N
      · obtain ⟨L, hL, hLl, hLv⟩ := splitS_some ns B (by rw [HBL.out]; exact hsum)
        rw [hL] at HSP
        have HLL := Is.mk hLl
        have HLV := hidden hLv
        have HSP' : Hid (Calls Tryd.prog 14 #[.slice qb N db, .slice ql j dl] w7 fun e w' => ∃ (q : Option Addr) (d : Nat) (l : List Bl), e = .returned (.tuple #[.slice q j d, .bool true]) ∧ RdG KBl DBl w' q j d l ∧ l.map Bl.xs = L ∧ Below w7.heap.size w7 w') := HSP.out.mono (by
          rintro e w' ⟨v, l, rfl, hr, hm, -, hb⟩
          have hm' : l.map Bl.xs = L := hm
          have hll : l.length = j := by rw [← List.length_map Bl.xs, hm', hLl, HNL.eq]
          obtain ⟨q, d, rfl, hrd⟩ := hr.bls hll
          exact ⟨q, d, l, rfl, hrd, hm', hb⟩)
        clear hL hLl hLv HSP
        go_wp2_with (first
          | (go_at_call 14; (with_reducible refine (HSP'.out).mono ?_); rintro e w8 ⟨qx, dx, l, rfl, hrd, hm, hb⟩; have HBX := hidden hb; have HRD := hidden hrd; have HM := hidden hm; clear hrd hm hb)
          | fail)
        go_loopw [20, 116] (fun a i wr => ∃ t : Nat, t ≤ j ∧ i = .int .i64 t ∧ a = .int .i64 (((ns.take t).sum : Nat) : Int) ∧ Below w8.heap.size w8 wr) (fun _ i _ => j - (intOf i).toNat)
        case atStart => exact ⟨0, by omega, rfl, rfl, Below.refl _ _⟩
        case round =>
          obtain ⟨t, ht, rfl, rfl, hb⟩ := hrel
          have HBT := hidden hb
          clear hb
          by_cases hlx : t < j
          · have hlx' : (t : Int) < j := by omega
            have hbW := HBX.out.trans (HBT.out.mono HBX.out.size)
            have hlj : l.length = j := HRD.out.len
            obtain ⟨gx, rfl, hcx, hyx⟩ := (HRD.out.below HBT.out).bl t (by omega)
            obtain ⟨bl, ol, rfl, hcl⟩ := (HIT.out wr hbW).at_ t hlx
            rw [HZV.out t (by rw [HNL.eq]; exact hlx)] at hcl
            have hxs : l[t].xs = (B.drop (ns.take t).sum).take (ns.getD t 0) := by
              have h1 := HLV.out t (by rw [HNL.eq]; exact hlx)
              rw [← HM.out, List.getElem?_map, List.getElem?_eq_getElem (by omega)] at h1
              simpa using h1
            have HNX := hidden (sum_next ns t (by rw [HNL.eq]; exact hlx))
            have hst := HNT.out (t + 1)
            rw [HNX.out] at hst
            have hv39 := HNV.out t
            generalize ns.getD t 0 = v at hcl hxs HNX hst hv39
            obtain ⟨S, hS⟩ : ∃ S, (ns.take t).sum = S := ⟨_, rfl⟩
            rw [hS] at hxs HNX hst ⊢
            generalize l[t] = x at hcx hyx hxs
            obtain ⟨xp, xn, xc, xx⟩ := x
            simp only at hcx hyx hxs
            subst hxs
            have hSN : S + v ≤ N := by omega
            obtain rfl : xn = v := by
              have := hyx.len
              rw [List.length_take, List.length_drop, HBL.out] at this
              omega
            have hpart := (HYD.out wr hbW).part S (S + xn) (by omega) hSN
            rw [show S + xn - S = xn by omega, List.drop_take, show S + xn - S = xn by omega] at hpart
            obtain ⟨bp, hbp⟩ : ∃ bp, (if db = S then qb else Option.map (fun x : Addr => x.add S) qb) = bp := ⟨_, rfl⟩
            rw [hbp] at hpart
            have HQ := hidden (fun a => (equal_any xp bp xn xc xn (db - S) _ _ (wr.drewN a) (hyx.keep (fun _ _ h => h)) (hpart.keep (fun _ _ h => h))).mono (R' := fun e w' => e = .returned (.bool true) ∧ w' = wr.drewN a) (fun e w' ⟨h1, h2⟩ => ⟨by rw [h1]; simp, h2.symm⟩))
            have hdb := (HYD.out wr hbW).cap
            have q1 : ((xn : Int) != (xn : Int)) = false := by simp
            have q2 : IntKind.i64.wrap ((S : Int) + (xn : Int)) = (S : Int) + (xn : Int) := by rw [IntKind.wrap_i64]; omega
            have q3 : ¬ (N : Int) < (S : Int) + (xn : Int) := by omega
            have q4 : (S : Int) ≤ (S : Int) + (xn : Int) := by omega
            have q5 : (S : Int) + (xn : Int) ≤ (db : Int) := by omega
            have q6 : ((S : Int) + (xn : Int)).toNat = S + xn := by omega
            have q7 : S + xn - S = xn := by omega
            have q8 : (0 : Int) ≤ (S : Int) := by omega
            have q9 : (0 : Int) ≤ (S : Int) + (xn : Int) := by omega
            have q10 : ¬ (j : Int) ≤ (t : Int) := by omega
            have q11 : decide ((j : Int) ≤ (t : Int)) = false := decide_eq_false q10
            have q12 : decide ((N : Int) < (S : Int) + (xn : Int)) = false := decide_eq_false q3
            have q13 : decide (j ≤ t) = false := decide_eq_false (by omega)
            have q14 : decide (N < S + xn) = false := decide_eq_false (by omega)
            have HS := hidden hS
            clear hpart hyx hbW hlj hS
            go_wp2
            go_quiet ((go_at_call 17; (with_reducible exact Calls.quiet_of_same (HQ.out _))))
            have HBQ := hidden (HBT.out.trans (drew_below (B := wr.heap.size) (w := wr) (w' := wr.drewN nq) ⟨nq, rfl⟩ |>.mono HBT.out.size))
            go_wp2
            go_roundw
            case rel => exact ⟨t + 1, by omega, by go_num, by rw [HNX.out]; simp, HBQ.out⟩
            case measure => simp [intOf]; omega
          · have hlx' : ¬ (t : Int) < j := by omega
            have HBT2 := hidden (HB7.out.trans ((HBX.out.trans (HBT.out.mono HBX.out.size)).mono HB7.out.size))
            have HIT2 := hidden (fun W (hW : Below wr.heap.size wr W) => HIT.out W ((HBX.out.trans (HBT.out.mono HBX.out.size)).trans (hW.mono (Nat.le_trans HBX.out.size HBT.out.size))))
            clear HLV HLL HRD HM HBX HBT HIT HSP'
            go_wp2_with fail
            rename World => wl
            go_loopw [22, 172] (fun s i wr => ∃ y : Nat, y ≤ j ∧ i = .int .i64 y ∧ s = .int .i64 (((ns.take y).sum : Nat) : Int) ∧ Below wl.heap.size wl wr) (fun _ i _ => j - (intOf i).toNat)
            case atStart => exact ⟨0, by omega, rfl, rfl, Below.refl _ _⟩
            case round =>
              obtain ⟨y, hy, rfl, rfl, hb⟩ := hrel
              have HBS := hidden hb
              clear hb
              by_cases hly : y < j
              · have hly' : (y : Int) < j := by omega
                obtain ⟨b, o, rfl, hcl⟩ := (HIT2.out wr HBS.out).at_ y hly
                rw [HZV.out y (by rw [HNL.eq]; exact hly)] at hcl
                have HNX := hidden (sum_next ns y (by rw [HNL.eq]; exact hly))
                have hs1 := HNS.out y
                have hs2 := HNV.out y
                generalize ns.getD y 0 = v at hcl HNX hs2
                obtain ⟨S, hS⟩ : ∃ S, (ns.take y).sum = S := ⟨_, rfl⟩
                rw [hS] at HNX hs1 ⊢
                have hw : IntKind.i64.wrap ((S : Int) + (v : Int)) = (S : Int) + (v : Int) := by rw [IntKind.wrap_i64]; omega
                clear hS
                go_wp2
                go_roundw
                case rel => exact ⟨y + 1, by omega, by go_num, by rw [HNX.out]; simp, HBS.out⟩
                case measure => simp [intOf]; omega
              · have hly' : ¬ (y : Int) < j := by omega
                have hye : (ns.take y).sum = ns.sum := sum_all ns y (by rw [HNL.eq]; omega)
                rw [hye]
                obtain ⟨S, hS⟩ : ∃ S, ns.sum = S := ⟨_, rfl⟩
                rw [hS]
                rw [hS] at hsum
                have hfb : ((S : Int) ≤ (N : Int)) = True := by simp; omega
                clear hS hye
                go_wp2
                go_ret
                exact ⟨rfl, HBT2.out.trans (HBS.out.mono HBT2.out.size)⟩
      · have hnone := splitS_none ns B (by rw [HBL.out]; omega)
        rw [hnone] at HSP
        have HSP' : Hid (Calls Tryd.prog 14 #[.slice qb N db, .slice ql j dl] w7 fun e w' => ∃ (q : Option Addr) (d : Nat), e = .returned (.tuple #[.slice q 0 d, .bool false]) ∧ Below w7.heap.size w7 w') := HSP.out.mono (by
          rintro e w' ⟨v, l, rfl, hr, hm, -, hb⟩
          have hll : l.length = 0 := by
            have hm' : l.map Bl.xs = [] := hm
            rw [← List.length_map Bl.xs, hm']
            rfl
          obtain ⟨q, d, rfl, hrd⟩ := hr.bls hll
          exact ⟨q, d, rfl, hb⟩)
        clear hnone HSP
        go_wp2_with (first
          | (go_at_call 14; (with_reducible refine (HSP'.out).mono ?_); rintro e w8 ⟨qx, dx, rfl, hb⟩; have HBX := hidden hb; clear hb)
          | fail)
        go_loopw [20, 116] (fun a i wr => i = .int .i64 0 ∧ wr = w8) (fun _ i _ => 0)
        case atStart => exact ⟨rfl, rfl⟩
        case round =>
          obtain ⟨rfl, rfl⟩ := hrel
          have HBT2 := hidden (HB7.out.trans (HBX.out.mono HB7.out.size))
          have HIT2 := hidden (fun W (hW : Below wr.heap.size wr W) => HIT.out W (HBX.out.trans (hW.mono HBX.out.size)))
          clear HBX HIT HSP'
          go_wp2_with fail
          rename World => wl
          go_loopw [22, 172] (fun s i wr => ∃ y : Nat, y ≤ j ∧ i = .int .i64 y ∧ s = .int .i64 (((ns.take y).sum : Nat) : Int) ∧ Below wl.heap.size wl wr) (fun _ i _ => j - (intOf i).toNat)
          case atStart => exact ⟨0, by omega, rfl, rfl, Below.refl _ _⟩
          case round =>
            obtain ⟨y, hy, rfl, rfl, hb⟩ := hrel
            have HBS := hidden hb
            clear hb
            by_cases hly : y < j
            · have hly' : (y : Int) < j := by omega
              obtain ⟨b, o, rfl, hcl⟩ := (HIT2.out wr HBS.out).at_ y hly
              rw [HZV.out y (by rw [HNL.eq]; exact hly)] at hcl
              have HNX := hidden (sum_next ns y (by rw [HNL.eq]; exact hly))
              have hs1 := HNS.out y
              have hs2 := HNV.out y
              generalize ns.getD y 0 = v at hcl HNX hs2
              obtain ⟨S, hS⟩ : ∃ S, (ns.take y).sum = S := ⟨_, rfl⟩
              rw [hS] at HNX hs1 ⊢
              have hw : IntKind.i64.wrap ((S : Int) + (v : Int)) = (S : Int) + (v : Int) := by rw [IntKind.wrap_i64]; omega
              clear hS
              go_wp2
              go_roundw
              case rel => exact ⟨y + 1, by omega, by go_num, by rw [HNX.out]; simp, HBS.out⟩
              case measure => simp [intOf]; omega
            · have hly' : ¬ (y : Int) < j := by omega
              have hye : (ns.take y).sum = ns.sum := sum_all ns y (by rw [HNL.eq]; omega)
              rw [hye]
              obtain ⟨S, hS⟩ : ∃ S, ns.sum = S := ⟨_, rfl⟩
              rw [hS]
              rw [hS] at hsum
              have hfb : ((S : Int) ≤ (N : Int)) = False := by simp; omega
              clear hS hye
              go_wp2
              go_ret
              exact ⟨rfl, HBT2.out.trans (HBS.out.mono HBT2.out.size)⟩
end Go.Proofs.YtnnbfhjbaagnkaaDoor
