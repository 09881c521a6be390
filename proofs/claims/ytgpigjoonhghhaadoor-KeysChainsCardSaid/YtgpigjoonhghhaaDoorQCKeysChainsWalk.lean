/-
  The law KeysChains, walked: it returns true for every input, and only adds memory of its own.
-/
import Derived.Test.YtgpigjoonhghhaaDoorQCKeysAgreeWalk
import Derived.Deep.RegionHeld3
namespace Go.Proofs.YtgpigjoonhghhaaDoor
open Go.RowKit
set_option linter.unusedVariables false
theorem five_parts (w : World) (p0 p1 p2 p3 p4 : Option Addr) (n0 n1 n2 n3 n4 c0 c1 c2 c3 c4 : Nat) (L : Nat → List Int) (T : TypeId) (h : Rd5 w p0 p1 p2 p3 p4 n0 n1 n2 n3 n4 c0 c1 c2 c3 c4 L) :
    Parts (w.alloc (.cells #[.slice p0 n0 c0, .slice p1 n1 c1, .slice p2 n2 c2, .slice p3 n3 c3, .slice p4 n4 c4] T)) (some ⟨w.heap.size, 0, none⟩) 5 5 [⟨p0, n0, c0, L 0⟩, ⟨p1, n1, c1, L 1⟩, ⟨p2, n2, c2, L 2⟩, ⟨p3, n3, c3, L 3⟩, ⟨p4, n4, c4, L 4⟩] :=
  ⟨rfl, Nat.le_refl _, by decide, fun _ => ⟨w.heap.size, rfl, fun j hj => by
    have : j = 0 ∨ j = 1 ∨ j = 2 ∨ j = 3 ∨ j = 4 := by simp at hj; omega
    rcases this with rfl | rfl | rfl | rfl | rfl <;> go_simp⟩, fun x hx => by
    simp at hx
    rcases hx with rfl | rfl | rfl | rfl | rfl
    · exact h.y0.alloc _
    · exact h.y1.alloc _
    · exact h.y2.alloc _
    · exact h.y3.alloc _
    · exact h.y4.alloc _⟩
set_option maxHeartbeats 4000000 in
set_option maxRecDepth 100000 in
theorem keysChains_walk (p0 : Option Addr) (n0 c0 : Nat) (xs0 : List Int) (p1 : Option Addr) (n1 c1 : Nat) (xs1 : List Int) (z2 z3 : Int) (w : World) (h0 : Byt w p0 n0 c0 xs0) (r0 : c0 ≤ 140737488351232) (h1 : Byt w p1 n1 c1 xs1) (r1 : c1 ≤ 140737488351232) (g2 : 0 ≤ z2 ∧ z2 ≤ 18446744073709551615) (g3 : 0 ≤ z3 ∧ z3 ≤ 18446744073709551615) (hK : KAt w) :
    Calls Tryd.prog 6 #[.slice p0 n0 c0, .slice p1 n1 c1, .int .u64 z2, .int .u64 z3] w fun e w' => e = .returned (.bool true) ∧ Below w.heap.size w w' := by
  obtain ⟨i0, hi, hz0, hz1, hz2⟩ := info_parts Tryd.infoByte
  have HA := hidden (awake16_any w hK)
  have HK := hidden (fun W (hW : Below w.heap.size w W) => hK.below hW hK.lt)
  have H0 := hidden h0
  have H1 := hidden (fun W (hW : Below w.heap.size w W) => h1.below hW)
  have hl1 := h1.le
  have HXL := Is.mk h1.len
  have HXR := hidden h1.rng
  clear h0 hK r0 h1 r1
  go_enter Tryd.func6, Tryd.ntmps6
  by_cases s1 : n1 ≤ 200
  rotate_left
  · have e1 : (200 : Int) < n1 := by omega
    go_wp2_with (first
      | (go_at_call 7; (with_reducible refine (HA.out).mono ?_); rintro e w1 ⟨rfl, hb⟩; have HB1 := hidden hb; clear hb)
      | fail)
    go_ret
    exact ⟨rfl, HB1.out⟩
  have e1 : ¬ (200 : Int) < n1 := by omega
  by_cases s2 : n1 = 0
  · subst s2
    go_wp2_with (first
      | (go_at_call 7; (with_reducible refine (HA.out).mono ?_); rintro e w1 ⟨rfl, hb⟩; have HB1 := hidden hb; clear hb)
      | fail)
    go_ret
    exact ⟨rfl, HB1.out⟩
  have e2 : ((n1 : Int) == 0) = false := by simpa using s2
  go_upto_region 6 with (first
    | (go_at_call 7; (with_reducible refine (HA.out).mono ?_); rintro en w1 ⟨rfl, hb⟩; have HB1 := hidden hb; clear hb)
    | (go_at_call 8; (refine (new_any w p0 n0 c0 xs0 w1 H0.out HB1.out 160 (by omega)).mono ?_); rintro en w2 ⟨rfl, hc, hb⟩; have HC8 := hidden (next_any w w2 _ hc 20 (by omega)); have HB2 := hidden (HB1.out.trans (hb.mono HB1.out.size)); have hk2 := hc.base; have hk8 := hc.lt; clear hc hb)
    | fail)
  generalize w1.heap.size = k at *
  go_upto_region 7 with (first
    | (go_at_call 29; (with_reducible refine (HC8.out).mono ?_); rintro en v3 ⟨t, rfl, t0, t1, hc, hg⟩; obtain ⟨t, rfl⟩ := Int.eq_ofNat_of_zero_le t0; have HG3 := hidden hg; have HM3 := hidden (mbytes_any w v3 k hc (16 + t) (by omega)); rw [show ((16 + t : Nat) : Int) = 16 + (t : Int) by omega] at HM3; clear hc hg HC8)
    | (go_at_call 28; (with_reducible refine (HM3.out).mono ?_); rintro en v4 ⟨pa, ca, na, rfl, hy, hc, hg⟩; have HG4 := hidden (grown_trans HG3.out hg); have HA4 := hidden hy; have HN4 := hidden (next_any w v4 k hc 20 (by omega)); have hz4 := HG3.out.size; have hz4' := hg.size; clear hc hg hy HM3)
    | (go_at_call 29; (with_reducible refine (HN4.out).mono ?_); rintro en v5 ⟨u, rfl, u0, u1, hc, hg⟩; obtain ⟨u, rfl⟩ := Int.eq_ofNat_of_zero_le u0; have HG5 := hidden (grown_trans HG4.out hg); have HA5 := hidden (HA4.out.grown hg (OffB.low (by omega))); have HM5 := hidden (mbytes_any w v5 k hc (16 + u) (by omega)); rw [show ((16 + u : Nat) : Int) = 16 + (u : Int) by omega] at HM5; clear hc hg HN4 HA4)
    | (go_at_call 28; (with_reducible refine (HM5.out).mono ?_); rintro en v6 ⟨pb, cb, nb, rfl, hy, hc, hg⟩; have HG6 := hidden (grown_trans HG5.out hg); have HA6 := hidden (HA5.out.grown hg (OffB.low (by omega))).byt; have HY6 := hidden hy.byt; clear hc hg hy HM5)
    | fail)
  have HV6 := hidden (HB2.out.grown HG6.out HB2.out.size (fun j e => by cases e; exact hk2))
  have HKW := hidden (fun W (hW : Below v6.heap.size v6 W) => HK.out W (HV6.out.trans (hW.mono HV6.out.size)))
  have HW1 := hidden (fun W (hW : Below v6.heap.size v6 W) => H1.out W (HV6.out.trans (hW.mono HV6.out.size)))
  have hla := HA6.out.len
  have hlb := HY6.out.len
  have HOK := Is.mk (ok_drawn t u (by omega) (by omega))
  have hle : 16 + t ≤ 36 ∧ 16 + u ≤ 36 := by omega
  generalize 16 + t = na1 at *
  generalize 16 + u = nb1 at *
  clear t0 t1 u0 u1 HG3 HG4 HG5 HG6 HA5 HB1 HB2 hk2 hk8 hz4 hz4' HA H0 HK H1
  have HNIL := hidden (Own.nil v6 v6.heap.size 5)
  go_wp2_with (first
    | (at_builtin; refine wpList_append_byt _ rfl (.const (.slice none 0 0)) _ 22 rfl v6.heap.size 5 i0 (.int .u8 0) Tryd.underlying22 hi hz0 hz1 hz2 rfl _ _ rfl HNIL.out _ _ _ _ _ rfl HA6.out rfl (by simp; omega) (Nat.le_refl _) ?_)
    | fail)
  intro u7 v7 ho7 hg7
  have hb7 := (Below.refl v6.heap.size v6).grown hg7 (Nat.le_refl _) (nob _)
  have HO7 := hidden ho7
  have HB7 := hidden hb7
  have HY7 := hidden (HY6.out.below hb7)
  clear ho7 hg7 hb7
  go_wp2_with (first
    | (at_builtin; refine wpList_append_byt _ rfl _ _ 22 rfl v6.heap.size 5 i0 (.int .u8 0) Tryd.underlying22 hi hz0 hz1 hz2 rfl _ _ rfl HO7.out _ _ _ _ _ rfl HY7.out rfl (by rw [hla]; omega) HB7.out.size ?_)
    | fail)
  intro u8 v8 ho8 hg8
  have hb8 := HB7.out.grown hg8 HB7.out.size (fun j e => (HO7.out.lt j e).1)
  have hll : (na ++ nb).length = na1 + nb1 := by rw [List.length_append, hla, hlb]
  obtain ⟨pc, cc, rfl, hy8⟩ := ho8.bytN rfl hll (rng_append HA6.out.rng HY6.out.rng)
  have HB8 := hidden hb8
  have HY8 := hidden (fun W (hW : Below v8.heap.size v8 W) => hy8.below hW)
  have HA8 := hidden (fun W (hW : Below v8.heap.size v8 W) => HA6.out.below (hb8.trans (hW.mono hb8.size)))
  have HN8 := hidden (fun W (hW : Below v8.heap.size v8 W) => HY6.out.below (hb8.trans (hW.mono hb8.size)))
  have HK8 := hidden (fun W (hW : Below v8.heap.size v8 W) => HKW.out W (hb8.trans (hW.mono hb8.size)))
  have HW8 := hidden (fun W (hW : Below v8.heap.size v8 W) => HW1.out W (hb8.trans (hW.mono hb8.size)))
  have HV8 := hidden (HV6.out.trans (hb8.mono HV6.out.size))
  have hNR := rng_append HA6.out.rng HY6.out.rng
  clear ho8 hg8 hb8 hy8 HO7 HB7 HY7 HY6 HA6 HNIL HKW HW1 HB8 HV6
  -- the values
  have hE1 : seedE na1 nb1 n1 = 0 := by unfold seedE; rw [if_pos ⟨HOK.eq, s2⟩]
  have hE2 : keyE na1 nb1 = 0 := by unfold keyE; rw [if_pos HOK.eq]
  have hok' : okN na.length nb.length = true := by rw [hla, hlb]; exact HOK.eq
  have hTe : seedR na nb xs1 = hmacS (na ++ nb) xs1 := by unfold seedR; rw [if_pos ⟨hok', by rw [HXL.eq]; exact s2⟩]
  have hRe : ∀ d, rekR d na nb xs1 = hmacS d (xs1 ++ (na ++ nb)) := fun d => by unfold rekR; rw [if_pos ⟨hok', by rw [HXL.eq]; exact s2⟩]
  have HS := hidden (fun W (hW : Below v8.heap.size v8 W) => kseed_any pa pb p1 na1 ca nb1 cb n1 c1 na nb xs1 W (HA8.out W hW) (HN8.out W hW) (HW8.out W hW) (by omega) (HK8.out W hW))
  have HHM := hidden (fun W (hW : Below v8.heap.size v8 W) => hmac_any pc p1 (na1 + nb1) cc n1 c1 (na ++ nb) xs1 W (HY8.out W hW) (by omega) (HW8.out W hW) (by omega) (HK8.out W hW))
  have HD := hidden (fun (q : Option Addr) (d : Nat) W (hW : Below v8.heap.size v8 W) (hq : Byt W q 32 d (seedR na nb xs1)) => kder_any q pa pb 32 d na1 ca nb1 cb (seedR na nb xs1) na nb z2 z3 W hq (by omega) (HA8.out W hW) (HN8.out W hW) g2 g3 (HK8.out W hW))
  have HR := hidden (fun (q : Option Addr) (d : Nat) W (hW : Below v8.heap.size v8 W) (hq : Byt W q 32 d (keyK (seedR na nb xs1) na nb z2 z3 0)) => krek_any q pa pb p1 32 d na1 ca nb1 cb n1 c1 _ na nb xs1 W hq (by omega) (HA8.out W hW) (HN8.out W hW) (HW8.out W hW) (by omega) (HK8.out W hW))
  have HP1 := hidden (fun W (hW : Below v8.heap.size v8 W) => rput_yes pc (na1 + nb1) cc (na ++ nb) W (HY8.out W hW) (by omega) z2 g2 8 (by omega) (by omega))
  have HP2 := hidden (fun (q : Option Addr) (d : Nat) W (hq : Byt W q (na1 + nb1 + 8) d (na ++ nb ++ be 8 z2)) => rput_yes q (na1 + nb1 + 8) d (na ++ nb ++ be 8 z2) W hq (by omega) z3 g3 8 (by omega) (by omega))
  obtain ⟨S, hS⟩ : ∃ S, na ++ (nb ++ (be 8 z2 ++ be 8 z3)) = S := ⟨_, rfl⟩
  have eS : na ++ nb ++ be 8 z2 ++ be 8 z3 = S := by rw [← hS, List.append_assoc, List.append_assoc]
  rw [eS] at HP2
  rw [show ((8 : Nat) : Int) = 8 from rfl] at HP1 HP2
  have hSl : S.length = na1 + nb1 + 16 := by rw [← hS]; simp only [List.length_append, be_len, hla, hlb]; omega
  have hSr : ∀ y ∈ S, 0 ≤ y ∧ y ≤ 255 := by rw [← eS]; exact rng_append (rng_append hNR (be_rng 8 z2)) (be_rng 8 z3)
  have h2l : (na ++ nb ++ be 8 z2).length = na1 + nb1 + 8 := by rw [List.length_append, be_len, hll]
  have h2r := rng_append hNR (be_rng 8 z2)
  have HPL := hidden (fun (p q : Option Addr) (c d : Nat) W (hW : Below v8.heap.size v8 W) (hp : Byt W p 32 c (seedR na nb xs1)) (hq : Byt W q (na1 + nb1 + 16) d S) => plus_yes p q 32 c (na1 + nb1 + 16) d (seedR na nb xs1) S 168 (by omega) W hp (by omega) hq (by omega) (HK8.out W hW))
  rw [show ((168 : Nat) : Int) = 168 from rfl] at HPL
  have hJ : ∀ j, j < 5 → keyK (seedR na nb xs1) na nb z2 z3 j = cutK (plusS (seedR na nb xs1) S 172) (atK j) (szK j) := fun j hj => by unfold keyK allK; rw [if_pos hok', hS]
  have hJN : keyK (seedR na nb xs1) na nb z2 z3 0 ++ (keyK (seedR na nb xs1) na nb z2 z3 1 ++ (keyK (seedR na nb xs1) na nb z2 z3 2 ++ (keyK (seedR na nb xs1) na nb z2 z3 3 ++ keyK (seedR na nb xs1) na nb z2 z3 4))) = plusS (seedR na nb xs1) S 168 := by
    rw [hJ 0 (by decide), hJ 1 (by decide), hJ 2 (by decide), hJ 3 (by decide), hJ 4 (by decide), ← plus_take _ _ 168 172 (by decide)]
    exact keys_join _
  have HLK := hidden (keyK_len (seedR na nb xs1) na nb z2 z3 hok')
  have hTl : (seedR na nb xs1).length = 32 := seedR_len _ _ _ (by rw [hla, hlb, HXL.eq]; exact hE1)
  have HAL := Is.mk (plusS_len (seedR na nb xs1) S 168)
  have HAR := hidden (plusS_rng (seedR na nb xs1) S 168)
  have HHD := hidden (fun (q q2 : Option Addr) (d d2 : Nat) W (hW : Below v8.heap.size v8 W) (hq : Byt W q 32 d (keyK (seedR na nb xs1) na nb z2 z3 0)) (hq2 : Byt W q2 (n1 + (na1 + nb1)) d2 (xs1 ++ (na ++ nb))) => hmac_any q q2 32 d (n1 + (na1 + nb1)) d2 _ _ W hq (by omega) hq2 (by omega) (HK8.out W hW))
  rw [hRe] at HR
  have hDl := hmacS_len (keyK (seedR na nb xs1) na nb z2 z3 0) (xs1 ++ (na ++ nb))
  have hDr := hmacS_rng (keyK (seedR na nb xs1) na nb z2 z3 0) (xs1 ++ (na ++ nb))
  generalize hmacS (keyK (seedR na nb xs1) na nb z2 z3 0) (xs1 ++ (na ++ nb)) = D at *
  have hXl : (xs1 ++ (na ++ nb)).length = n1 + (na1 + nb1) := by rw [List.length_append, HXL.eq, hll]
  have hXr := rng_append HXR.out hNR
  generalize keyK (seedR na nb xs1) na nb z2 z3 = L at *
  generalize plusS (seedR na nb xs1) S 168 = P at *
  rw [← hTe] at HHM
  have hTr : ∀ y ∈ seedR na nb xs1, 0 ≤ y ∧ y ≤ 255 := by rw [hTe]; exact hmacS_rng _ _
  generalize seedR na nb xs1 = T at *
  rw [hE1] at HS HR
  rw [hE2] at HD
  have HTL := Is.mk hTl
  have HTR := hidden hTr
  have HJN := Is.mk hJN
  have HSL := Is.mk hSl
  have HSR := hidden hSr
  have H2L := Is.mk h2l
  have H2R := hidden h2r
  have HDL := Is.mk hDl
  have HDR := hidden hDr
  have HXX := Is.mk hXl
  have HXXR := hidden hXr
  have hnn : na1 + nb1 ≤ 72 := by omega
  generalize na ++ nb ++ be 8 z2 = S1 at *
  generalize na ++ nb = B at *
  generalize na1 + nb1 + 16 = m3 at *
  generalize na1 + nb1 + 8 = m2 at *
  generalize na1 + nb1 = m1 at *
  have HRW := hidden (Below.refl v8.heap.size v8)
  clear hE1 hE2 hok' hTe hRe hS eS hSl hSr h2l h2r hJ hJN hTl hTr hDl hDr hXl hXr hll hNR hla hlb HOK HXR
  go_upto_region 12 with (first
    | (go_at_call 10; (with_reducible refine (HS.out _ HRW.out).mono ?_); rintro e x1 ⟨q1, N1, d1, rfl, hy, hb⟩; obtain rfl : N1 = 32 := (by rw [← hy.len, HTL.eq]); have HX1 := hidden (HRW.out.trans (hb.mono HRW.out.size)); have Y1 := hidden hy; clear hy hb HS)
    | (go_at_call 30; (with_reducible refine (HHM.out _ HX1.out).mono ?_); rintro e x2 ⟨v, rfl, ho, hb⟩; obtain ⟨q2, d2, rfl, hy⟩ := ho.bytN rfl HTL.eq HTR.out; have HX2 := hidden (HX1.out.trans (hb.mono HX1.out.size)); have Y2 := hidden (Y1.out.below hb); have HE2 := hidden (equal_likeK q1 q2 32 d1 32 d2 T x2 (Y1.out.below hb) hy); clear hy hb ho HHM Y1)
    | (go_at_call 12; (with_reducible refine (HE2.out).mono ?_); rintro e x3 ⟨rfl, hb⟩; have HX3 := hidden (HX2.out.trans (hb.mono HX2.out.size)); have Y3 := hidden (Y2.out.below hb); clear hb HE2 Y2)
    | (go_at_call 15; (with_reducible refine (HD.out _ _ _ HX3.out Y3.out).mono ?_); rintro e x4 ⟨s0, s1, s2', s3, s4, m0, m1', m2', m3', m4, f0, f1, f2, f3, f4, rfl, ⟨y0, y1, y2, y3, y4⟩, hb⟩; have HX4 := hidden (HX3.out.trans (hb.mono HX3.out.size)); have Y4 := hidden (Y3.out.below hb); obtain rfl : m0 = 32 := (by rw [← y0.len, HLK.out 0 (by decide)]; rfl); obtain rfl : m1' = 36 := (by rw [← y1.len, HLK.out 1 (by decide)]; rfl); obtain rfl : m2' = 36 := (by rw [← y2.len, HLK.out 2 (by decide)]; rfl); obtain rfl : m3' = 32 := (by rw [← y3.len, HLK.out 3 (by decide)]; rfl); obtain rfl : m4 = 32 := (by rw [← y4.len, HLK.out 4 (by decide)]; rfl); have Y7 : Hid (Rd5 x4 s0 s1 s2' s3 s4 32 36 36 32 32 f0 f1 f2 f3 f4 L) := hidden ⟨y0, y1, y2, y3, y4⟩; clear y0 y1 y2 y3 y4 hb HD Y3)
    | fail)
  have k8 := K5.new (p0 := s0) (p1 := s1) (p2 := s2') (p3 := s3) (p4 := s4) (n0 := 32) (n1 := 36) (n2 := 36) (n3 := 32) (n4 := 32) (c0 := f0) (c1 := f1) (c2 := f2) (c3 := f3) (c4 := f4) x4 34
  have b8 := (Below.refl x4.heap.size x4).alloc (Nat.le_refl _) (.cells #[.slice s0 32 f0, .slice s1 36 f1, .slice s2' 36 f2, .slice s3 32 f3, .slice s4 32 f4] 34)
  generalize World.alloc _ _ = x5 at *
  have HX5 := hidden (HX4.out.trans (b8.mono HX4.out.size))
  have Y5 := hidden (Y4.out.below b8)
  have HR5 := hidden (fun W (hW : Below x5.heap.size x5 W) => (Y7.out.below b8).below hW)
  have HK5 := hidden (fun W (hW : Below x5.heap.size x5 W) => k8.below hW)
  have HB5 := hidden (Below.refl x5.heap.size x5)
  clear k8 b8 HX1 HX2 HX3 HX4 Y4 Y7 HRW
  go_upto_region 14 with (first
    | (go_at_call 32; (with_reducible refine (HP1.out _ HX5.out).mono ?_); rintro e x6 ⟨v, rfl, ho, hb⟩; obtain ⟨q6, d6, rfl, hy⟩ := ho.bytN rfl H2L.eq H2R.out; have HX6 := hidden (HX5.out.trans (hb.mono HX5.out.size)); have HB6 := hidden hb; have Y6 := hidden (Y5.out.below hb); have HP6 := hidden (HP2.out q6 d6 x6 hy); clear hy hb ho HP1 HP2 Y5)
    | (go_at_call 32; (with_reducible refine (HP6.out).mono ?_); rintro e x7 ⟨v, rfl, ho, hb⟩; obtain ⟨q7, d7, rfl, hy⟩ := ho.bytN rfl HSL.eq HSR.out; have HX7 := hidden (HX6.out.trans (hb.mono HX6.out.size)); have HB7 := hidden (HB6.out.trans (hb.mono HB6.out.size)); have HP7 := hidden (HPL.out q1 q7 d1 d7 x7 (HX6.out.trans (hb.mono HX6.out.size)) (Y6.out.below hb) hy); clear hy hb ho HP6 Y6 HPL)
    | (go_at_call 31; (with_reducible refine (HP7.out).mono ?_); rintro e x8 ⟨q8, d8, rfl, hy, hb⟩; have HX8 := hidden (HX7.out.trans (hb.mono HX7.out.size)); have HB8 := hidden (HB7.out.trans (hb.mono HB7.out.size)); have Y8 := hidden hy; clear hy hb HP7)
    | fail)
  obtain ⟨a0, a1, a2, a3, a4, -⟩ := HK5.out _ HB8.out
  go_wp2_with fail
  have hpt := five_parts x8 s0 s1 s2' s3 s4 32 36 36 32 32 f0 f1 f2 f3 f4 L 22 (HR5.out _ HB8.out)
  have hb9 := (Below.refl x8.heap.size x8).alloc (Nat.le_refl _) (.cells #[.slice s0 32 f0, .slice s1 36 f1, .slice s2' 36 f2, .slice s3 32 f3, .slice s4 32 f4] 22)
  generalize World.alloc _ _ = x9 at *
  have HX9 := hidden (HX8.out.trans (hb9.mono HX8.out.size))
  have HB9 := hidden (HB8.out.trans (hb9.mono HB8.out.size))
  have Y9 := hidden (Y8.out.below hb9)
  have H := hidden hpt
  have hlt5 : (bytesOf [⟨s0, 32, f0, L 0⟩, ⟨s1, 36, f1, L 1⟩, ⟨s2', 36, f2, L 2⟩, ⟨s3, 32, f3, L 3⟩, ⟨s4, 32, f4, L 4⟩]) = P := by
    simp only [bytesOf, List.flatMap_cons, List.flatMap_nil, List.append_nil]
    exact HJN.eq
  have hsz5 : sizeOf' [⟨s0, 32, f0, L 0⟩, ⟨s1, 36, f1, L 1⟩, ⟨s2', 36, f2, L 2⟩, ⟨s3, 32, f3, L 3⟩, ⟨s4, 32, f4, L 4⟩] = 168 := by simp [sizeOf']
  generalize ([⟨s0, 32, f0, L 0⟩, ⟨s1, 36, f1, L 1⟩, ⟨s2', 36, f2, L 2⟩, ⟨s3, 32, f3, L 3⟩, ⟨s4, 32, f4, L 4⟩] : List Part) = l at *
  have HL := hidden hpt.len
  have HS' := hidden (sizeOf_le l)
  have HLT := Is.mk hlt5
  have HO0 := hidden (Own.nil x9 x9.heap.size 5)
  generalize x8.heap.size = g9 at *
  clear hpt hb9 a0 a1 a2 a3 a4 HX5 HX6 HX7 HX8 HB5 HB6 HB7 HB8 Y8 hlt5
  go_loopw [18, 96] (fun v i wx => ∃ j : Nat, j ≤ 5 ∧ i = .int .i64 j ∧ Own wx x9.heap.size 5 v (bytesOf (l.take j)) ∧ Below x9.heap.size x9 wx) (fun _ i _ => 5 - (intOf i).toNat)
  case atStart => exact ⟨0, by omega, rfl, HO0.out, Below.refl _ _⟩
  case round =>
    obtain ⟨j, hj, rfl, ho, hb⟩ := hrel
    have HO := hidden ho
    have HB := hidden hb
    by_cases hlt : j < 5
    · have hlt' : (j : Int) < 5 := by omega
      have hkl : j < l.length := by rw [HL.out]; exact hlt
      obtain ⟨g, hge, hc⟩ := (H.out.below hb).mem (by omega)
      cases hge
      have c0' := hc j hkl
      have hbt := bytesOf_take l j hkl
      have hst2 := sizeOf_take l j hkl
      have hsl := HS'.out (j + 1)
      have HY := hidden ((H.out.byt _ (List.getElem_mem hkl)).below hb)
      have hlen : (bytesOf (l.take j)).length = sizeOf' (l.take j) := bytesOf_len' (w := x9) (fun x hx => H.out.byt x (List.mem_of_mem_take hx))
      generalize l[j] = x at *
      obtain ⟨xp, xn, xc, xx⟩ := x
      simp only at c0' hst2 hbt HY
      have HBT := hidden hbt
      have hroom : (bytesOf (l.take j)).length + xn ≤ 140737488355328 := by omega
      clear hc hbt hlen hst2 hsl ho hb
      go_wp2_with (first
        | (at_builtin; go_loud (refine wpList_append_byt _ rfl _ _ 22 rfl x9.heap.size 5 i0 (.int .u8 0) Tryd.underlying22 hi hz0 hz1 hz2 rfl _ _ rfl HO.out _ _ _ _ _ rfl HY.out rfl hroom HB.out.size ?_))
        | fail)
      intro v2 w2 ho2 hg2
      have HB2 := hidden (HB.out.grown hg2 HB.out.size (fun i hi => (HO.out.lt i hi).1))
      rw [← HBT.out] at ho2
      have HO2 := hidden ho2
      clear ho2 hg2 HO HB
      go_wp2
      go_roundw
      case rel => exact ⟨j + 1, by omega, by go_num, HO2.out, HB2.out⟩
      case measure => simp [intOf]; omega
    · obtain rfl : j = 5 := by omega
      have hbt : bytesOf (l.take 5) = P := by rw [← HLT.eq, List.take_of_length_le (by rw [HL.out]; exact Nat.le_refl _)]
      rw [hbt] at ho
      obtain ⟨qj, dj, rfl, hyj⟩ := ho.bytN rfl HAL.eq HAR.out
      rename World => xr
      have HXR' := hidden (HX9.out.trans (hb.mono HX9.out.size))
      have HBR := hidden (HB9.out.trans (hb.mono HB9.out.size))
      have HEJ := hidden (equal_likeK qj q8 168 dj 168 d8 P _ hyj (Y9.out.below hb))
      obtain ⟨a0, a1, a2, a3, a4, -⟩ := HK5.out _ HBR.out
      clear ho hb hyj HO HB hbt
      go_upto_region 22 with (first
        | (go_at_call 12; (with_reducible refine (HEJ.out).mono ?_); rintro e y1 ⟨rfl, hb⟩; have HY1 := hidden (HXR'.out.trans (hb.mono HXR'.out.size)); have HBY := hidden (HBR.out.trans (hb.mono HBR.out.size)); obtain ⟨a0, a1, a2, a3, a4, -⟩ := HK5.out _ (HBR.out.trans (hb.mono HBR.out.size)); clear hb HEJ)
        | (go_at_call 13; (with_reducible refine (HR.out _ _ _ HY1.out (HR5.out _ HBY.out).y0).mono ?_); rintro e y2 ⟨q9, N9, d9, rfl, hy, hb⟩; obtain rfl : N9 = 32 := (by rw [← hy.len, HDL.eq]); have HY2 := hidden (HY1.out.trans (hb.mono HY1.out.size)); have HBZ := hidden (HBY.out.trans (hb.mono HBY.out.size)); have Y9D := hidden hy; clear hy hb HR)
        | fail)
      clear a0 a1 a2 a3 a4 HXR' HBR HBY HY1 HX9 HB9 H HL HS' HLT HO0 Y9
      have kq := (HK5.out _ HBZ.out).z0
      have HDQ := hidden (drew_below ⟨1, rfl⟩ : Below y2.heap.size y2 y2.drew)
      have HQ8 := hidden (HY2.out.trans (HDQ.out.mono HY2.out.size))
      have HQY := hidden (HW8.out _ HQ8.out)
      have HQ5 := hidden (HBZ.out.trans (HDQ.out.mono HBZ.out.size))
      have HNQ := hidden (Own.nil y2.drew y2.heap.size 5)
      have hsq : y2.heap.size ≤ y2.drew.heap.size := HDQ.out.size
      go_region_held3 (fun w' => w'.cell? ⟨x4.heap.size, 0, none⟩ = some (.slice s0 32 f0)) ((first | exact kq | (with_reducible assumption)))
        (first
        | (refine step_append_byt _ (by rfl) _ _ 22 (by rfl) y2.heap.size 5 i0 (.int .u8 0) Tryd.underlying22 hi hz0 hz1 hz2 rfl _ _ (by rfl) HNQ.out _ _ _ _ _ (by rfl) HQY.out (by rfl) (by simp; omega) hsq ?_; intro v6 w6 ho6' hg6; have ho6 := show Own w6 y2.heap.size 5 v6 xs1 from ho6'; have hb6 := HDQ.out.grown hg6 hsq (nob _); have kq6 := (HK5.out _ (HBZ.out.trans (hb6.mono HBZ.out.size))).z0; have hyb := HY8.out _ (HY2.out.trans (hb6.mono HY2.out.size)))
        | (refine step_append_byt _ (by rfl) _ _ 22 (by rfl) y2.heap.size 5 i0 (.int .u8 0) Tryd.underlying22 hi hz0 hz1 hz2 rfl _ _ (by rfl) ho6 _ _ _ _ _ (by rfl) hyb (by rfl) (by rw [HXL.eq]; omega) hb6.size ?_; intro v7 w7 ho7 hg7; have hb7 := hb6.grown hg7 hb6.size (fun j e => (ho6.lt j e).1); have kq7 := (HK5.out _ (HBZ.out.trans (hb7.mono HBZ.out.size))).z0; obtain ⟨q7, d7, rfl, hy7⟩ := ho7.bytN rfl HXX.eq HXXR.out; have hmq := HHD.out s0 q7 f0 d7 w7 (HY2.out.trans (hb7.mono HY2.out.size)) (HR5.out _ (HBZ.out.trans (hb7.mono HBZ.out.size))).y0 hy7)
        | (go_at_call 30; (with_reducible refine hmq.mono ?_); rintro e w8 ⟨v8, rfl, ho8, hb8⟩; obtain ⟨q8', d8', rfl, hy8'⟩ := ho8.bytN rfl HDL.eq HDR.out; have hb8' := hb7.trans (hb8.mono hb7.size); have kq8 := (HK5.out _ (HBZ.out.trans (hb8'.mono HBZ.out.size))).z0; have heq := equal_likeK q9 q8' 32 d9 32 d8' D w8 (Y9D.out.below hb8') hy8')
        | (go_at_call 12; (with_reducible refine heq.mono ?_); rintro e w9 ⟨rfl, hb9⟩; have hb9' := hb8'.trans (hb9.mono hb8'.size); have kq9 := (HK5.out _ (HBZ.out.trans (hb9'.mono HBZ.out.size))).z0)
        | fail)
      all_goals go_wp2
      all_goals go_ret
      all_goals exact ⟨rfl, HV8.out.trans ((HY2.out.trans (hb9'.mono HY2.out.size)).mono HV8.out.size)⟩
end Go.Proofs.YtgpigjoonhghhaaDoor
