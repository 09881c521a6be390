/-
  Child, keys'.
-/
import Derived.Test.YtgpigjoonhghhaaDoorQAKeyRet
import Derived.StillTailTactics
namespace Go.Proofs.YtgpigjoonhghhaaDoor
open Go.RowKit
set_option linter.unusedVariables false
set_option maxHeartbeats 1600000 in
set_option maxRecDepth 100000 in
theorem kch_any (p q r t : Option Addr) (n c m d k f h j : Nat) (x a b s : List Int) (w : World) (hx : Byt w p n c x) (hn : n ≤ 1000) (ha : Byt w q m d a) (hb : Byt w r k f b) (hs : Byt w t h j s) (hh : h ≤ 1000) (hK : KAt w) :
    Calls Tryd.prog 18 #[.slice p n c, .slice q m d, .slice r k f, .slice t h j] w (To2 (chK x a b s) (keyE m k) w) := by
  have HN := hidden (fun W => are_any q r m d k f W ha.le hb.le)
  have hla := ha.len
  have hlb := hb.len
  have hls := hs.len
  have HK5 := hidden (K2.new (p0 := none) (p1 := none) (n0 := 0) (n1 := 0) (c0 := 0) (c1 := 0) w 39)
  have HB0 := hidden ((Below.refl w.heap.size w).alloc (Nat.le_refl _) (.cells #[.slice none 0 0, .slice none 0 0] 39))
  by_cases hok : okN m k = true
  rotate_left
  · have hok' : okN m k = false := by cases h9 : okN m k with | true => exact absurd h9 hok | false => rfl
    rw [hok'] at HN
    have e1 : ∀ j, chK x a b s j = [] := fun j => by unfold chK; rw [if_neg (by rw [hla, hlb]; exact hok)]
    have e2 : keyE m k = 13 := by unfold keyE; rw [if_neg hok]
    have HE := hidden e1
    rw [e2]
    generalize chK x a b s = L at *
    clear e1 e2 hok hok' hx ha hb hs hla hlb hls hK
    go_enter Tryd.func18, Tryd.ntmps18
    go_wp2_with (first
      | (go_at_call 33; (with_reducible refine (HN.out _).mono ?_); rintro e w2 ⟨rfl, rfl⟩)
      | fail)
    refine ret_k2 (g := w.heap.size) (p0 := none) (p1 := none) (n0 := 0) (n1 := 0) (c0 := 0) (c1 := 0) rfl rfl rfl rfl (by constructor <;> (try intro j) <;> go_simp) ?_
    refine ⟨none, none, 0, 0, 0, 0, rfl, ?_, ?_⟩
    · rw [HE.out, HE.out]
      exact ⟨Byt.nil _ _ _ (by decide), Byt.nil _ _ _ (by decide)⟩
    · exact HB0.out
  have hni := (okN_iff m k).1 hok
  rw [hok] at HN
  have e2 : keyE m k = 0 := by unfold keyE; rw [if_pos hok]
  rw [e2]
  obtain ⟨S, hS⟩ : ∃ S, s ++ (a ++ b) = S := ⟨_, rfl⟩
  have hSl : S.length = h + (m + k) := by rw [← hS]; simp only [List.length_append, hla, hlb, hls]
  have hSr : ∀ y ∈ S, 0 ≤ y ∧ y ≤ 255 := by rw [← hS]; exact rng_append hs.rng (rng_append ha.rng hb.rng)
  have e1 : ∀ j, chK x a b s j = cutK (plusS x S 72) (36 * j) 36 := fun j => by unfold chK chA; rw [if_pos (by rw [hla, hlb]; exact hok), hS]
  have HPL := Is.mk (plusS_len x S 72)
  have HL0 := Is.mk (e1 0)
  have HL1 := Is.mk (e1 1)
  generalize chK x a b s = L at *
  have HC := hidden (fun W (hB : Below w.heap.size w W) => catK W t q r h m k j d f s a b (hs.below hB) (ha.below hB) (hb.below hB) (by omega))
  rw [hS] at HC
  have HE := hidden (fun (q' : Option Addr) (d' : Nat) W (hB : Below w.heap.size w W) (hW : Byt W q' (h + (m + k)) d' S) => expand_any p q' (some ⟨W.heap.size, 0, none⟩) n c (h + (m + k)) d' 2 2 x S [36, 36] 72 (fun j => [0, 36, 72].getD j 0) (W.alloc (.cells #[.int .i64 36, .int .i64 36] 3)) ((hx.below hB).alloc _) hn (hW.alloc _) (by omega) (its_new W [36, 36] _ _ (by decide) (by decide) rfl) (by omega) rfl (by decide) (by decide) rfl (hK.below (hB.alloc hB.size _) hK.lt))
  rw [split2 _ HPL.eq] at HE
  simp only [Option.getD_some] at HE
  generalize plusS x S 72 = P at *
  obtain ⟨M, hM⟩ : ∃ M, h + (m + k) = M := ⟨_, rfl⟩
  rw [hM] at HE hSl
  have HSL := Is.mk hSl
  have HSR := hidden hSr
  clear hS hSl hSr e1 e2 hok hni hx ha hb hs hla hlb hls hK hM
  have HC2 := hidden (HC.out _ HB0.out)
  simp only [World.size_alloc] at HC2
  clear HC
  go_enter Tryd.func18, Tryd.ntmps18
  go_upto_region 4 with (first
    | (go_at_call 33; (with_reducible refine (HN.out _).mono ?_); rintro e w2 ⟨rfl, rfl⟩)
    | (go_at_call 34; (with_reducible refine (HC2.out).mono ?_); rintro e w5 ⟨v5, rfl, ho5, hb5⟩; obtain ⟨q5, d5, rfl, hy5⟩ := ho5.bytN rfl HSL.eq HSR.out; have HK5' := hidden (HK5.out.below hb5); have HB5 := hidden (HB0.out.trans (hb5.mono HB0.out.size)); have HE5 := hidden (HE.out q5 d5 w5 HB5.out hy5); clear ho5 hb5 hy5 HE HC2)
    | (go_at_call 40; (with_reducible refine (HE5.out).mono ?_); rintro e w6 ⟨v6, l, rfl, hr6, hl6, hb6⟩)
    | fail)
  have hk6 := (HK5'.out.below ((Below.refl _ w5).alloc (Nat.le_refl _) (.cells #[.int .i64 36, .int .i64 36] 3))).below hb6
  have hb6' := (HB5.out.alloc HB5.out.size (.cells #[.int .i64 36, .int .i64 36] 3)).trans (hb6.mono (by have := HB5.out.size; simp; omega))
  obtain ⟨g, c6, rfl, hcc, hcm, hg, hat⟩ := pieces_at hr6 hl6 2 rfl (by decide)
  obtain ⟨s0, m0, d0', y0, b0⟩ := hat 0 (by decide)
  obtain ⟨s1, m1, d1', y1, b1⟩ := hat 1 (by decide)
  have HBS : Hid (w.heap.size < (w5.alloc (.cells #[.int .i64 36, .int .i64 36] 3)).heap.size) := hidden (by have := HB5.out.size; simp; omega)
  have HK6 := hidden hk6
  have HBB := hidden hb6'
  have HY0 := hidden b0
  have HY1 := hidden b1
  clear hb6 hb6' hk6 b0 b1 hat hg hcm hcc hl6 hr6 HB5 HK5' HK5 HB0 HN
  go_still_tail 7, (by kernel_rfl)
  change wpList _ _ _ _ _ w6.drew
  obtain ⟨w7, hw7⟩ : ∃ w7, w6.drew = w7 := ⟨_, rfl⟩
  have hb7 : Below w6.heap.size w6 w7 := by rw [← hw7]; exact drew_below ⟨1, rfl⟩
  rw [hw7]
  have hk7 := HK6.out.below hb7
  have HBT := hidden (HBB.out.trans (hb7.mono HBB.out.size))
  have hgs := hk7.lt
  obtain ⟨k0, k1, kf⟩ := hk7
  have HZ0 := hidden (HY0.out.below hb7)
  have HZ1 := hidden (HY1.out.below hb7)
  clear hb7 hw7 y0 y1 HK6 HY0 HY1 HBB
  go_wp2
  refine ret_k2 (g := w.heap.size) (p0 := s0) (p1 := s1) (n0 := m0) (n1 := m1) (c0 := d0') (c1 := d1') rfl rfl rfl rfl (by constructor <;> (try intro j) <;> go_simp) ?_
  have hst := two_set w7 w.heap.size (.slice s0 m0 d0') (.slice s1 m1 d1')
  have hbs := HBS.out
  generalize World.setCell _ _ _ = w8 at *
  refine ⟨s0, s1, m0, m1, d0', d1', rfl, ?_, ?_⟩
  · rw [HL0.eq, HL1.eq]
    exact ⟨HZ0.out.stored hst hbs, HZ1.out.stored hst hbs⟩
  · exact below_stored HBT.out hst (Nat.le_refl _) HBT.out.size
end Go.Proofs.YtgpigjoonhghhaaDoor
