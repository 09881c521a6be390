/-
  Derive, the document's.
-/
import Derived.Test.YtgpigjoonhghhaaDoorQDKeyRet
import Derived.Test.YtgpigjoonhghhaaDoorQDZ2
import Derived.Test.YtgpigjoonhghhaaDoorQDRPrfPlus
import Derived.Test.YtgpigjoonhghhaaDoorQDRPrfSplit
import Derived.StillTailTactics
namespace Go.Proofs.YtgpigjoonhghhaaDoor
open Go.RowKit
set_option linter.unusedVariables false
set_option maxHeartbeats 1600000 in
set_option maxRecDepth 100000 in
theorem rkder_any (p q r : Option Addr) (n c m d k f : Nat) (x a b : List Int) (i z : Int) (w : World) (hx : Byt w p n c x) (hn : n ≤ 1000) (ha : Byt w q m d a) (hb : Byt w r k f b) (hi : 0 ≤ i ∧ i ≤ 18446744073709551615) (hz : 0 ≤ z ∧ z ≤ 18446744073709551615) :
    Calls Tryd.prog 16 #[.slice p n c, .slice q m d, .slice r k f, .int .u64 i, .int .u64 z] w (To5 (keyK x a b i z) (keyE m k) w) := by
  have HN := hidden (fun W => rare_any q r m d k f W ha.le hb.le)
  have hla := ha.len
  have hlb := hb.len
  have HK5 := hidden (K5.new (p0 := none) (p1 := none) (p2 := none) (p3 := none) (p4 := none) (n0 := 0) (n1 := 0) (n2 := 0) (n3 := 0) (n4 := 0) (c0 := 0) (c1 := 0) (c2 := 0) (c3 := 0) (c4 := 0) w 34)
  have HB0 := hidden ((Below.refl w.heap.size w).alloc (Nat.le_refl _) (.cells #[.slice none 0 0, .slice none 0 0, .slice none 0 0, .slice none 0 0, .slice none 0 0] 34))
  by_cases hok : okN m k = true
  rotate_left
  · have hok' : okN m k = false := by cases h9 : okN m k with | true => exact absurd h9 hok | false => rfl
    rw [hok'] at HN
    have e1 : ∀ j, keyK x a b i z j = [] := fun j => by unfold keyK; rw [if_neg (by rw [hla, hlb]; exact hok)]
    have e2 : keyE m k = 13 := by unfold keyE; rw [if_neg hok]
    have HE := hidden e1
    rw [e2]
    generalize keyK x a b i z = L at *
    clear e1 e2 hok hok' hx ha hb hla hlb
    go_enter Tryd.func16, Tryd.ntmps16
    go_wp2_with (first
      | (go_at_call 35; (with_reducible refine (HN.out _).mono ?_); rintro e w2 ⟨rfl, rfl⟩)
      | fail)
    refine ret_k5 (g := w.heap.size) (p0 := none) (p1 := none) (p2 := none) (p3 := none) (p4 := none) (n0 := 0) (n1 := 0) (n2 := 0) (n3 := 0) (n4 := 0) (c0 := 0) (c1 := 0) (c2 := 0) (c3 := 0) (c4 := 0) rfl rfl rfl rfl (by constructor <;> (try intro j) <;> go_simp) ?_
    refine ⟨none, none, none, none, none, 0, 0, 0, 0, 0, 0, 0, 0, 0, 0, rfl, ?_, ?_⟩
    · rw [HE.out, HE.out, HE.out, HE.out, HE.out]
      exact ⟨Byt.nil _ _ _ (by decide), Byt.nil _ _ _ (by decide), Byt.nil _ _ _ (by decide), Byt.nil _ _ _ (by decide), Byt.nil _ _ _ (by decide)⟩
    · exact HB0.out
  have hni := (okN_iff m k).1 hok
  rw [hok] at HN
  have e2 : keyE m k = 0 := by unfold keyE; rw [if_pos hok]
  rw [e2]
  obtain ⟨S, hS⟩ : ∃ S, a ++ (b ++ (be 8 i ++ be 8 z)) = S := ⟨_, rfl⟩
  have hSl : S.length = m + (k + 16) := by rw [← hS]; simp only [List.length_append, be_len, hla, hlb]
  have hSr : ∀ y ∈ S, 0 ≤ y ∧ y ≤ 255 := by rw [← hS]; exact rng_append ha.rng (rng_append hb.rng (rng_append (be_rng 8 i) (be_rng 8 z)))
  have e1 : ∀ j, keyK x a b i z j = cutK (plusS x S 172) (atK j) (szK j) := fun j => by unfold keyK allK; rw [if_pos (by rw [hla, hlb]; exact hok), hS]
  have HPL := Is.mk (plusS_len x S 172)
  have HL0 := Is.mk (e1 0)
  have HL1 := Is.mk (e1 1)
  have HL2 := Is.mk (e1 2)
  have HL3 := Is.mk (e1 3)
  have HL4 := Is.mk (e1 4)
  generalize keyK x a b i z = L at *
  have HJ : Hid (∀ W, Below w.heap.size w W → Calls Tryd.prog 37 #[.slice (some ⟨W.heap.size, 0, none⟩) 2 2] (W.alloc (.cells #[.slice q m d, .slice r k f] 22)) (ToV (a ++ b) W)) := (fun W (hB : Below w.heap.size w W) => rcat2_any W q r m k d f a b (ha.below hB) (hb.below hB) (by omega))
  have HP1 := hidden (fun (q' : Option Addr) (d' : Nat) W (hW : Byt W q' (m + k) d' (a ++ b)) => rput_yes q' (m + k) d' (a ++ b) W hW (by omega) i hi 8 (by omega) (by omega))
  have HP2 := hidden (fun (q' : Option Addr) (d' : Nat) W (hW : Byt W q' (m + k + 8) d' (a ++ b ++ be 8 i)) => rput_yes q' (m + k + 8) d' (a ++ b ++ be 8 i) W hW (by omega) z hz 8 (by omega) (by omega))
  have eS : a ++ b ++ be 8 i ++ be 8 z = S := by rw [← hS, List.append_assoc, List.append_assoc]
  rw [eS] at HP2
  rw [show ((8 : Nat) : Int) = 8 from rfl] at HP1 HP2
  have hSl' : S.length = m + k + 16 := by omega
  have HP := hidden (fun (q' : Option Addr) (d' : Nat) W (hB : Below w.heap.size w W) (hW : Byt W q' (m + k + 16) d' S) => rplus_yes p q' n c (m + k + 16) d' x S 172 (by omega) W (hx.below hB) (by omega) hW (by omega))
  have HE := hidden (fun (q' : Option Addr) (d' : Nat) W (hW : Byt W q' 172 d' (plusS x S 172)) => rsplit_any q' (some ⟨W.heap.size, 0, none⟩) 172 d' 5 5 (plusS x S 172) [32, 36, 36, 32, 32] (W.alloc (.cells #[.int .i64 32, .int .i64 36, .int .i64 36, .int .i64 32, .int .i64 32] 3)) (hW.alloc _) (by omega) (its_new W [32, 36, 36, 32, 32] _ _ (by decide) (by decide) rfl) (by omega))
  rw [show ((172 : Nat) : Int) = 172 from rfl] at HP
  rw [split5 _ HPL.eq] at HE
  have h1l : (a ++ b).length = m + k := by rw [List.length_append, hla, hlb]
  have h1r := rng_append ha.rng hb.rng
  have h2l : (a ++ b ++ be 8 i).length = m + k + 8 := by rw [List.length_append, List.length_append, be_len, hla, hlb]
  have h2r := rng_append (rng_append ha.rng hb.rng) (be_rng 8 i)
  generalize a ++ b ++ be 8 i = I2 at *
  generalize a ++ b = I1 at *
  have H1L := Is.mk h1l
  have H2L := Is.mk h2l
  have H1R := hidden h1r
  have H2R := hidden h2r
  have HPR := hidden (plusS_rng x S 172)
  generalize plusS x S 172 = P at *
  obtain ⟨M0, hM0⟩ : ∃ M, m + k = M := ⟨_, rfl⟩
  rw [hM0] at HP1 H1L HP2 H2L HP hSl'
  obtain ⟨M1, hM1⟩ : ∃ M, M0 + 8 = M := ⟨_, rfl⟩
  rw [hM1] at HP2 H2L
  obtain ⟨M2, hM2⟩ : ∃ M, M0 + 16 = M := ⟨_, rfl⟩
  rw [hM2] at HP hSl'
  have HSL := Is.mk hSl'
  have HSR := hidden hSr
  clear hS hSl hSr h1l h2l h1r h2r e1 e2 hok hni hx ha hb hla hlb hM0 hM1 hM2 hSl' eS
  have HJ2 := hidden (HJ.out _ HB0.out)
  simp only [World.size_alloc] at HJ2
  clear HJ
  go_enter Tryd.func16, Tryd.ntmps16
  go_upto_region 6 with (first
    | (go_at_call 35; (with_reducible refine (HN.out _).mono ?_); rintro e w2 ⟨rfl, rfl⟩)
    | (go_at_call 37; (with_reducible refine (HJ2.out).mono ?_); rintro e w3 ⟨v3, rfl, ho3, hb3⟩; obtain ⟨q3, d3, rfl, hy3⟩ := ho3.bytN rfl H1L.eq H1R.out; have HK3 := hidden (HK5.out.below hb3); have HB3 := hidden (HB0.out.trans (hb3.mono HB0.out.size)); have HP3 := hidden (HP1.out q3 d3 w3 hy3); clear ho3 hb3 hy3 HP1 HJ2)
    | (go_at_call 32; (with_reducible refine (HP3.out).mono ?_); rintro e w4 ⟨v4, rfl, ho4, hb4⟩; obtain ⟨q4, d4, rfl, hy4⟩ := ho4.bytN rfl H2L.eq H2R.out; have HK4 := hidden (HK3.out.below hb4); have HB4 := hidden (HB3.out.trans (hb4.mono HB3.out.size)); have HP4 := hidden (HP2.out q4 d4 w4 hy4); clear ho4 hb4 hy4 HP3 HP2)
    | (go_at_call 32; (with_reducible refine (HP4.out).mono ?_); rintro e w5 ⟨v5, rfl, ho5, hb5⟩; obtain ⟨q5, d5, rfl, hy5⟩ := ho5.bytN rfl HSL.eq HSR.out; have HK5' := hidden (HK4.out.below hb5); have HB5 := hidden (HB4.out.trans (hb5.mono HB4.out.size)); have HP5 := hidden (HP.out q5 d5 w5 HB5.out hy5); clear ho5 hb5 hy5 HP4 HP)
    | (go_at_call 41; (with_reducible refine (HP5.out).mono ?_); rintro e w55 ⟨q55, d55, rfl, hy55, hb55⟩; have HK55 := hidden (HK5'.out.below hb55); have HB55 := hidden (HB5.out.trans (hb55.mono HB5.out.size)); have HE5 := hidden (HE.out q55 d55 w55 hy55); clear hb55 hy55 HP5 HE)
    | (go_at_call 42; (with_reducible refine (HE5.out).mono ?_); rintro e w6 ⟨v6, l, rfl, hr6, hl6, -, hb6⟩)
    | fail)
  simp only [Option.getD_some] at hl6
  have hk6 := (HK55.out.below ((Below.refl _ w55).alloc (Nat.le_refl _) (.cells #[.int .i64 32, .int .i64 36, .int .i64 36, .int .i64 32, .int .i64 32] 3))).below hb6
  have hb6' := (HB55.out.alloc HB55.out.size (.cells #[.int .i64 32, .int .i64 36, .int .i64 36, .int .i64 32, .int .i64 32] 3)).trans (hb6.mono (by have := HB55.out.size; simp; omega))
  obtain ⟨g, c6, rfl, hcc, hcm, hg, hat⟩ := pieces_at hr6 hl6 5 rfl (by decide)
  obtain ⟨s0, m0, d0', y0, b0⟩ := hat 0 (by decide)
  obtain ⟨s1, m1, d1', y1, b1⟩ := hat 1 (by decide)
  obtain ⟨s2, m2, d2', y2, b2⟩ := hat 2 (by decide)
  obtain ⟨s3, m3, d3', y3, b3⟩ := hat 3 (by decide)
  obtain ⟨s4, m4, d4', y4, b4⟩ := hat 4 (by decide)
  have HBS : Hid (w.heap.size < (w55.alloc (.cells #[.int .i64 32, .int .i64 36, .int .i64 36, .int .i64 32, .int .i64 32] 3)).heap.size) := hidden (by have := HB55.out.size; simp; omega)
  have HK6 := hidden hk6
  have HBB := hidden hb6'
  have HY0 := hidden b0
  have HY1 := hidden b1
  have HY2 := hidden b2
  have HY3 := hidden b3
  have HY4 := hidden b4
  clear hb6 hb6' hk6 b0 b1 b2 b3 b4 hat hg hcm hcc hl6 hr6 HB55 HB5 HB4 HB3 HK3 HK4 HK5' HK55 HK5 HB0 HN
  go_still_tail 16, (by kernel_rfl)
  change wpList _ _ _ _ _ w6.drew
  obtain ⟨w7, hw7⟩ : ∃ w7, w6.drew = w7 := ⟨_, rfl⟩
  have hb7 : Below w6.heap.size w6 w7 := by rw [← hw7]; exact drew_below ⟨1, rfl⟩
  rw [hw7]
  have hk7 := HK6.out.below hb7
  have HBT := hidden (HBB.out.trans (hb7.mono HBB.out.size))
  have hgs := hk7.lt
  obtain ⟨k0, k1, k2, k3, k4, kf⟩ := hk7
  have HZ0 := hidden (HY0.out.below hb7)
  have HZ1 := hidden (HY1.out.below hb7)
  have HZ2 := hidden (HY2.out.below hb7)
  have HZ3 := hidden (HY3.out.below hb7)
  have HZ4 := hidden (HY4.out.below hb7)
  clear hb7 hw7 y0 y1 y2 y3 y4 HK6 HY0 HY1 HY2 HY3 HY4 HBB
  go_wp2
  refine ret_k5 (g := w.heap.size) (p0 := s0) (p1 := s1) (p2 := s2) (p3 := s3) (p4 := s4) (n0 := m0) (n1 := m1) (n2 := m2) (n3 := m3) (n4 := m4) (c0 := d0') (c1 := d1') (c2 := d2') (c3 := d3') (c4 := d4') rfl rfl rfl rfl (by constructor <;> (try intro j) <;> go_simp) ?_
  have hst := five_set w7 w.heap.size (.slice s0 m0 d0') (.slice s1 m1 d1') (.slice s2 m2 d2') (.slice s3 m3 d3') (.slice s4 m4 d4')
  have hbs := HBS.out
  generalize World.setCell _ _ _ = w8 at *
  refine ⟨s0, s1, s2, s3, s4, m0, m1, m2, m3, m4, d0', d1', d2', d3', d4', rfl, ?_, ?_⟩
  · rw [HL0.eq, HL1.eq, HL2.eq, HL3.eq, HL4.eq]
    exact ⟨HZ0.out.stored hst hbs, HZ1.out.stored hst hbs, HZ2.out.stored hst hbs, HZ3.out.stored hst hbs, HZ4.out.stored hst hbs⟩
  · exact below_stored HBT.out hst (Nat.le_refl _) HBT.out.size
end Go.Proofs.YtgpigjoonhghhaaDoor
