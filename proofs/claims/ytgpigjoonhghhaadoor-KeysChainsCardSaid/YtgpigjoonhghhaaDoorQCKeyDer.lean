/-
  Derive, keys'.
-/
import Derived.Test.YtgpigjoonhghhaaDoorQCKeyRet
import Derived.Test.YtgpigjoonhghhaaDoorQCWPut
import Derived.StillTailTactics
namespace Go.Proofs.YtgpigjoonhghhaaDoor
open Go.RowKit
set_option linter.unusedVariables false
set_option maxHeartbeats 1600000 in
set_option maxRecDepth 100000 in
theorem kder_any (p q r : Option Addr) (n c m d k f : Nat) (x a b : List Int) (i z : Int) (w : World) (hx : Byt w p n c x) (hn : n ≤ 1000) (ha : Byt w q m d a) (hb : Byt w r k f b) (hi : 0 ≤ i ∧ i ≤ 18446744073709551615) (hz : 0 ≤ z ∧ z ≤ 18446744073709551615) (hK : KAt w) :
    Calls Tryd.prog 15 #[.slice p n c, .slice q m d, .slice r k f, .int .u64 i, .int .u64 z] w (To5 (keyK x a b i z) (keyE m k) w) := by
  have HN := hidden (fun W => are_any q r m d k f W ha.le hb.le)
  have hla := ha.len
  have hlb := hb.len
  have HK5 := hidden (K5.new (p0 := none) (p1 := none) (p2 := none) (p3 := none) (p4 := none) (n0 := 0) (n1 := 0) (n2 := 0) (n3 := 0) (n4 := 0) (c0 := 0) (c1 := 0) (c2 := 0) (c3 := 0) (c4 := 0) w 34)
  have HB0 := hidden ((Below.refl w.heap.size w).alloc (Nat.le_refl _) (.cells #[.slice none 0 0, .slice none 0 0, .slice none 0 0, .slice none 0 0, .slice none 0 0] 34))
  by_cases hok : okN m k = true
  rotate_left
  · have hok' : okN m k = false := by cases h9 : okN m k with | true => exact absurd h9 hok | false => rfl
    rw [hok'] at HN
    have e1 : ∀ j, keyK x a b i z j = [] := fun j => by unfold keyK; rw [if_neg (by rw [hla, hlb]; exact hok)]
    have e2 : keyE m k = 13 := by unfold keyE; rw [if_neg hok]
    have HE := hidden e1
    rw [e2]
    generalize keyK x a b i z = L at *
    clear e1 e2 hok hok' hx ha hb hla hlb hK
    go_enter Tryd.func15, Tryd.ntmps15
    go_wp2_with (first
      | (go_at_call 33; (with_reducible refine (HN.out _).mono ?_); rintro e w2 ⟨rfl, rfl⟩)
      | fail)
    refine ret_k5 (g := w.heap.size) (p0 := none) (p1 := none) (p2 := none) (p3 := none) (p4 := none) (n0 := 0) (n1 := 0) (n2 := 0) (n3 := 0) (n4 := 0) (c0 := 0) (c1 := 0) (c2 := 0) (c3 := 0) (c4 := 0) rfl rfl rfl rfl (by constructor <;> (try intro j) <;> go_simp) ?_
    refine ⟨none, none, none, none, none, 0, 0, 0, 0, 0, 0, 0, 0, 0, 0, rfl, ?_, ?_⟩
    · rw [HE.out, HE.out, HE.out, HE.out, HE.out]
      exact ⟨Byt.nil _ _ _ (by decide), Byt.nil _ _ _ (by decide), Byt.nil _ _ _ (by decide), Byt.nil _ _ _ (by decide), Byt.nil _ _ _ (by decide)⟩
    · exact HB0.out
  have hni := (okN_iff m k).1 hok
  rw [hok] at HN
  have e2 : keyE m k = 0 := by unfold keyE; rw [if_pos hok]
  rw [e2]
  obtain ⟨S, hS⟩ : ∃ S, a ++ (b ++ (be 8 i ++ be 8 z)) = S := ⟨_, rfl⟩
  have hSl : S.length = m + (k + 16) := by rw [← hS]; simp only [List.length_append, be_len, hla, hlb]
  have hSr : ∀ y ∈ S, 0 ≤ y ∧ y ≤ 255 := by rw [← hS]; exact rng_append ha.rng (rng_append hb.rng (rng_append (be_rng 8 i) (be_rng 8 z)))
  have e1 : ∀ j, keyK x a b i z j = cutK (plusS x S 172) (atK j) (szK j) := fun j => by unfold keyK allK; rw [if_pos (by rw [hla, hlb]; exact hok), hS]
  have HPL := Is.mk (plusS_len x S 172)
  have HL0 := Is.mk (e1 0)
  have HL1 := Is.mk (e1 1)
  have HL2 := Is.mk (e1 2)
  have HL3 := Is.mk (e1 3)
  have HL4 := Is.mk (e1 4)
  generalize keyK x a b i z = L at *
  have HP1 := hidden (fun W => put_yes none 0 0 [] W (Byt.nil _ _ _ (by decide)) (by omega) i hi 8 (by omega) (by omega))
  have HP2 := hidden (fun (q' : Option Addr) (d' : Nat) W (hW : Byt W q' 8 d' (be 8 i)) => put_yes q' 8 d' (be 8 i) W hW (by omega) z hz 8 (by omega) (by omega))
  rw [List.nil_append, show ((8 : Nat) : Int) = 8 from rfl] at HP1
  rw [show ((8 : Nat) : Int) = 8 from rfl] at HP2
  have h1l := be_len 8 i
  have h2l : (be 8 i ++ be 8 z).length = 16 := by simp [be_len]
  have h1r := be_rng 8 i
  have h2r := rng_append (be_rng 8 i) (be_rng 8 z)
  generalize be 8 i ++ be 8 z = I2 at *
  generalize be 8 i = I1 at *
  have H1L := Is.mk h1l
  have H2L := Is.mk h2l
  have H1R := hidden h1r
  have H2R := hidden h2r
  have HA := hidden (fun W (hW : Below w.heap.size w W) => ha.below hW)
  have HB := hidden (fun W (hW : Below w.heap.size w W) => hb.below hW)
  have HC := hidden (fun (q' : Option Addr) (d' : Nat) W (hB : Below w.heap.size w W) (hW : Byt W q' 16 d' I2) => catK W q r q' m k 16 d f d' a b I2 (ha.below hB) (hb.below hB) hW (by omega))
  rw [hS] at HC
  have HE := hidden (fun (q' : Option Addr) (d' : Nat) W (hB : Below w.heap.size w W) (hW : Byt W q' (m + (k + 16)) d' S) => expand_any p q' (some ⟨W.heap.size, 0, none⟩) n c (m + (k + 16)) d' 6 6 x S [32, 36, 36, 32, 32, 4] 172 (fun j => [0, 32, 68, 104, 136, 168, 172].getD j 0) (W.alloc (.cells #[.int .i64 32, .int .i64 36, .int .i64 36, .int .i64 32, .int .i64 32, .int .i64 4] 3)) ((hx.below hB).alloc _) hn (hW.alloc _) (by omega) (its_new W [32, 36, 36, 32, 32, 4] _ _ (by decide) (by decide) rfl) (by omega) rfl (by decide) (by decide) rfl (hK.below (hB.alloc hB.size _) hK.lt))
  rw [split6 _ HPL.eq] at HE
  simp only [Option.getD_some] at HE
  generalize plusS x S 172 = P at *
  obtain ⟨M, hM⟩ : ∃ M, m + (k + 16) = M := ⟨_, rfl⟩
  rw [hM] at HE hSl
  have HSL := Is.mk hSl
  have HSR := hidden hSr
  clear hS hSl hSr h1l h2l h1r h2r e1 e2 hok hni hx ha hb hla hlb hK hM
  go_enter Tryd.func15, Tryd.ntmps15
  go_upto_region 5 with (first
    | (go_at_call 33; (with_reducible refine (HN.out _).mono ?_); rintro e w2 ⟨rfl, rfl⟩)
    | (go_at_call 39; (with_reducible refine (HP1.out _).mono ?_); rintro e w3 ⟨v3, rfl, ho3, hb3⟩; obtain ⟨q3, d3, rfl, hy3⟩ := ho3.bytN rfl H1L.eq H1R.out; have HK3 := hidden (HK5.out.below hb3); have HB3 := hidden (HB0.out.trans (hb3.mono HB0.out.size)); have HP3 := hidden (HP2.out q3 d3 w3 hy3); clear ho3 hb3 hy3 HP2)
    | (go_at_call 39; (with_reducible refine (HP3.out).mono ?_); rintro e w4 ⟨v4, rfl, ho4, hb4⟩; obtain ⟨q4, d4, rfl, hy4⟩ := ho4.bytN rfl H2L.eq H2R.out; have HK4 := hidden (HK3.out.below hb4); have HB4 := hidden (HB3.out.trans (hb4.mono HB3.out.size)); have HC4 := hidden (HC.out q4 d4 w4 HB4.out hy4); clear ho4 hb4 hy4 HP3 HC)
    | (go_at_call 34; (with_reducible refine (HC4.out).mono ?_); rintro e w5 ⟨v5, rfl, ho5, hb5⟩; obtain ⟨q5, d5, rfl, hy5⟩ := ho5.bytN rfl HSL.eq HSR.out; have HK5' := hidden (HK4.out.below hb5); have HB5 := hidden (HB4.out.trans (hb5.mono HB4.out.size)); have HE5 := hidden (HE.out q5 d5 w5 HB5.out hy5); clear ho5 hb5 hy5 HE HC4)
    | (go_at_call 40; (with_reducible refine (HE5.out).mono ?_); rintro e w6 ⟨v6, l, rfl, hr6, hl6, hb6⟩)
    | fail)
  have hk6 := (HK5'.out.below ((Below.refl _ w5).alloc (Nat.le_refl _) (.cells #[.int .i64 32, .int .i64 36, .int .i64 36, .int .i64 32, .int .i64 32, .int .i64 4] 3))).below hb6
  have hb6' := (HB5.out.alloc HB5.out.size (.cells #[.int .i64 32, .int .i64 36, .int .i64 36, .int .i64 32, .int .i64 32, .int .i64 4] 3)).trans (hb6.mono (by have := HB5.out.size; simp; omega))
  obtain ⟨g, c6, rfl, hcc, hcm, hg, hat⟩ := pieces_at hr6 hl6 6 rfl (by decide)
  obtain ⟨s0, m0, d0', y0, b0⟩ := hat 0 (by decide)
  obtain ⟨s1, m1, d1', y1, b1⟩ := hat 1 (by decide)
  obtain ⟨s2, m2, d2', y2, b2⟩ := hat 2 (by decide)
  obtain ⟨s3, m3, d3', y3, b3⟩ := hat 3 (by decide)
  obtain ⟨s4, m4, d4', y4, b4⟩ := hat 4 (by decide)
  have HBS : Hid (w.heap.size < (w5.alloc (.cells #[.int .i64 32, .int .i64 36, .int .i64 36, .int .i64 32, .int .i64 32, .int .i64 4] 3)).heap.size) := hidden (by have := HB5.out.size; simp; omega)
  have HK6 := hidden hk6
  have HBB := hidden hb6'
  have HY0 := hidden b0
  have HY1 := hidden b1
  have HY2 := hidden b2
  have HY3 := hidden b3
  have HY4 := hidden b4
  clear hb6 hb6' hk6 b0 b1 b2 b3 b4 hat hg hcm hcc hl6 hr6 HB5 HB4 HB3 HK3 HK4 HK5' HK5 HB0 HA HB HN
  go_still_tail 16, (by kernel_rfl)
  change wpList _ _ _ _ _ w6.drew
  obtain ⟨w7, hw7⟩ : ∃ w7, w6.drew = w7 := ⟨_, rfl⟩
  have hb7 : Below w6.heap.size w6 w7 := by rw [← hw7]; exact drew_below ⟨1, rfl⟩
  rw [hw7]
  have hk7 := HK6.out.below hb7
  have HBT := hidden (HBB.out.trans (hb7.mono HBB.out.size))
  have hgs := hk7.lt
  obtain ⟨k0, k1, k2, k3, k4, kf⟩ := hk7
  have HZ0 := hidden (HY0.out.below hb7)
  have HZ1 := hidden (HY1.out.below hb7)
  have HZ2 := hidden (HY2.out.below hb7)
  have HZ3 := hidden (HY3.out.below hb7)
  have HZ4 := hidden (HY4.out.below hb7)
  clear hb7 hw7 y0 y1 y2 y3 y4 HK6 HY0 HY1 HY2 HY3 HY4 HBB
  go_wp2
  refine ret_k5 (g := w.heap.size) (p0 := s0) (p1 := s1) (p2 := s2) (p3 := s3) (p4 := s4) (n0 := m0) (n1 := m1) (n2 := m2) (n3 := m3) (n4 := m4) (c0 := d0') (c1 := d1') (c2 := d2') (c3 := d3') (c4 := d4') rfl rfl rfl rfl (by constructor <;> (try intro j) <;> go_simp) ?_
  have hst := five_set w7 w.heap.size (.slice s0 m0 d0') (.slice s1 m1 d1') (.slice s2 m2 d2') (.slice s3 m3 d3') (.slice s4 m4 d4')
  have hbs := HBS.out
  generalize World.setCell _ _ _ = w8 at *
  refine ⟨s0, s1, s2, s3, s4, m0, m1, m2, m3, m4, d0', d1', d2', d3', d4', rfl, ?_, ?_⟩
  · rw [HL0.eq, HL1.eq, HL2.eq, HL3.eq, HL4.eq]
    exact ⟨HZ0.out.stored hst hbs, HZ1.out.stored hst hbs, HZ2.out.stored hst hbs, HZ3.out.stored hst hbs, HZ4.out.stored hst hbs⟩
  · exact below_stored HBT.out hst (Nat.le_refl _) HBT.out.size
end Go.Proofs.YtgpigjoonhghhaaDoor
