/-
  Child, the document's.
-/
import Derived.Test.YtgpigjoonhghhaaDoorQDKeyRet
import Derived.Test.YtgpigjoonhghhaaDoorQDRPrfPlus
import Derived.StillTailTactics
namespace Go.Proofs.YtgpigjoonhghhaaDoor
open Go.RowKit
set_option linter.unusedVariables false
set_option maxHeartbeats 1600000 in
set_option maxRecDepth 100000 in
theorem rkch_any (p q r t : Option Addr) (n c m d k f h j : Nat) (x a b s : List Int) (w : World) (hx : Byt w p n c x) (hn : n ≤ 1000) (ha : Byt w q m d a) (hb : Byt w r k f b) (hs : Byt w t h j s) (hh : h ≤ 1000) :
    Calls Tryd.prog 19 #[.slice p n c, .slice q m d, .slice r k f, .slice t h j] w (To2 (chK x a b s) (keyE m k) w) := by
  have HN := hidden (fun W => rare_any q r m d k f W ha.le hb.le)
  have hla := ha.len
  have hlb := hb.len
  have hls := hs.len
  have HK5 := hidden (K2.new (p0 := none) (p1 := none) (n0 := 0) (n1 := 0) (c0 := 0) (c1 := 0) w 39)
  have HB0 := hidden ((Below.refl w.heap.size w).alloc (Nat.le_refl _) (.cells #[.slice none 0 0, .slice none 0 0] 39))
  by_cases hok : okN m k = true
  rotate_left
  · have hok' : okN m k = false := by cases h9 : okN m k with | true => exact absurd h9 hok | false => rfl
    rw [hok'] at HN
    have e1 : ∀ j, chK x a b s j = [] := fun j => by unfold chK; rw [if_neg (by rw [hla, hlb]; exact hok)]
    have e2 : keyE m k = 13 := by unfold keyE; rw [if_neg hok]
    have HE := hidden e1
    rw [e2]
    generalize chK x a b s = L at *
    clear e1 e2 hok hok' hx ha hb hs hla hlb hls
    go_enter Tryd.func19, Tryd.ntmps19
    go_wp2_with (first
      | (go_at_call 35; (with_reducible refine (HN.out _).mono ?_); rintro e w2 ⟨rfl, rfl⟩)
      | fail)
    refine ret_k2 (g := w.heap.size) (p0 := none) (p1 := none) (n0 := 0) (n1 := 0) (c0 := 0) (c1 := 0) rfl rfl rfl rfl (by constructor <;> (try intro j) <;> go_simp) ?_
    refine ⟨none, none, 0, 0, 0, 0, rfl, ?_, ?_⟩
    · rw [HE.out, HE.out]
      exact ⟨Byt.nil _ _ _ (by decide), Byt.nil _ _ _ (by decide)⟩
    · exact HB0.out
  have hni := (okN_iff m k).1 hok
  rw [hok] at HN
  have e2 : keyE m k = 0 := by unfold keyE; rw [if_pos hok]
  rw [e2]
  obtain ⟨S, hS⟩ : ∃ S, s ++ (a ++ b) = S := ⟨_, rfl⟩
  have hSl : S.length = h + (m + k) := by rw [← hS]; simp only [List.length_append, hla, hlb, hls]
  have hSr : ∀ y ∈ S, 0 ≤ y ∧ y ≤ 255 := by rw [← hS]; exact rng_append hs.rng (rng_append ha.rng hb.rng)
  have e1 : ∀ j, chK x a b s j = cutK (plusS x S 72) (36 * j) 36 := fun j => by unfold chK chA; rw [if_pos (by rw [hla, hlb]; exact hok), hS]
  have HPL := Is.mk (plusS_len x S 72)
  have HL0 := Is.mk (e1 0)
  have HL1 := Is.mk (e1 1)
  generalize chK x a b s = L at *
  have HC := hidden (fun W (hB : Below w.heap.size w W) => rcatK W t q r h m k j d f s a b (hs.below hB) (ha.below hB) (hb.below hB) (by omega))
  rw [hS] at HC
  have HE := hidden (fun (q' : Option Addr) (d' : Nat) W (hB : Below w.heap.size w W) (hW : Byt W q' (h + (m + k)) d' S) => rplus_yes p q' n c (h + (m + k)) d' x S 72 (by omega) W (hx.below hB) (by omega) hW (by omega))
  rw [show ((72 : Nat) : Int) = 72 from rfl] at HE
  have HPR := hidden (plusS_rng x S 72)
  generalize plusS x S 72 = P at *
  obtain ⟨M, hM⟩ : ∃ M, h + (m + k) = M := ⟨_, rfl⟩
  rw [hM] at HE hSl
  have HSL := Is.mk hSl
  have HSR := hidden hSr
  clear hS hSl hSr e1 e2 hok hni hx ha hb hs hla hlb hls hM
  have HC2 := hidden (HC.out _ HB0.out)
  simp only [World.size_alloc] at HC2
  clear HC
  go_enter Tryd.func19, Tryd.ntmps19
  go_upto_region 4 with (first
    | (go_at_call 35; (with_reducible refine (HN.out _).mono ?_); rintro e w2 ⟨rfl, rfl⟩)
    | (go_at_call 37; (with_reducible refine (HC2.out).mono ?_); rintro e w5 ⟨v5, rfl, ho5, hb5⟩; obtain ⟨q5, d5, rfl, hy5⟩ := ho5.bytN rfl HSL.eq HSR.out; have HK5' := hidden (HK5.out.below hb5); have HB5 := hidden (HB0.out.trans (hb5.mono HB0.out.size)); have HE5 := hidden (HE.out q5 d5 w5 HB5.out hy5); clear ho5 hb5 hy5 HE HC2)
    | (go_at_call 41; (with_reducible refine (HE5.out).mono ?_); rintro e w6 ⟨q6, d6, rfl, hy6, hb6⟩)
    | fail)
  have HK6 := hidden (HK5'.out.below hb6)
  have HBB := hidden (HB5.out.trans (hb6.mono HB5.out.size))
  have hcap := hy6.cap
  have hya := hy6.front 36 (by omega)
  obtain ⟨b6, o6, rfl, hc6⟩ := hy6.at_ (by decide)
  have h72 := hy6.len
  have hyb : Byt w6 (some ⟨b6, o6 + 36, none⟩) 36 (d6 - 36) (P.drop 36) := by
    have hbig := hy6.big
    refine ⟨by rw [List.length_drop, hy6.len], by omega, by omega, rng_drop hy6.rng _, fun _ => ⟨b6, o6 + 36, rfl, fun i hi => ?_⟩⟩
    rw [List.length_drop, hy6.len] at hi
    rw [Nat.add_assoc, hc6 (36 + i) (by omega)]
    simp [List.getD_eq_getElem?_getD]
  have HL0' : Is (L 0) (P.take 36) := ⟨by rw [HL0.eq]; rfl⟩
  have HL1' : Is (L 1) (P.drop 36) := ⟨by rw [HL1.eq]; unfold cutK; rw [List.take_of_length_le (by rw [List.length_drop, HPL.eq]; decide)]⟩
  have HYA := hidden hya
  have HYB := hidden hyb
  clear hb6 hy6 hya hyb hc6 HB5 HK5' HK5 HB0 HN HE5 HL0 HL1
  have hk7 := HK6.out
  have hgs := hk7.lt
  obtain ⟨k0, k1, kf⟩ := hk7
  go_region
  go_wp2
  have hst := grown_trans (grown_drewN w6 1 (some w.heap.size)) (two_set (w6.drewN 1) w.heap.size (.slice (some ⟨b6, o6, none⟩) 36 d6) (.slice (some ⟨b6, o6 + 36, none⟩) 36 (d6 - 36)))
  refine ret_k2 (g := w.heap.size) (p0 := some ⟨b6, o6, none⟩) (p1 := some ⟨b6, o6 + 36, none⟩) (n0 := 36) (n1 := 36) (c0 := d6) (c1 := d6 - 36) rfl rfl rfl rfl (by constructor <;> (try intro j) <;> go_simp) ?_
  have HZ0 := hidden (HYA.out.below (show Below w6.heap.size w6 (w6.drewN 1) from drew_below ⟨1, rfl⟩))
  have HZ1 := hidden (HYB.out.below (show Below w6.heap.size w6 (w6.drewN 1) from drew_below ⟨1, rfl⟩))
  have k1' : ((w6.drewN 1).setCell ⟨w.heap.size, 0, none⟩ (.slice (some ⟨b6, o6, none⟩) 36 d6)).cell? ⟨w.heap.size, 1, none⟩ = some (.slice none 0 0) := (World.cell?_setCell_other (w6.drewN 1) _ _ _ (by simp)).trans k1
  refine ⟨_, _, _, _, _, _, rfl, ?_, ?_⟩
  · rw [HL0'.eq, HL1'.eq]
    exact ⟨(HZ0.out.over k0 _).over k1' _, (HZ1.out.over k0 _).over k1' _⟩
  · exact below_stored HBB.out hst (Nat.le_refl _) HBB.out.size
end Go.Proofs.YtgpigjoonhghhaaDoor
