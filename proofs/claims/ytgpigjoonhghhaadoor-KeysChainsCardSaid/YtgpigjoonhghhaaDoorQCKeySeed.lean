/-
  Seed and Rekey, keys' and the document's.
-/
import Derived.Test.YtgpigjoonhghhaaDoorQCKeyFn
namespace Go.Proofs.YtgpigjoonhghhaaDoor
open Go.RowKit
set_option linter.unusedVariables false
set_option maxHeartbeats 1600000 in
set_option maxRecDepth 100000 in
theorem kseed_any (p q r : Option Addr) (n c m d k f : Nat) (a b s : List Int) (w : World) (ha : Byt w p n c a) (hb : Byt w q m d b) (hs : Byt w r k f s) (hk : k ≤ 1000) (hK : KAt w) :
    Calls Tryd.prog 10 #[.slice p n c, .slice q m d, .slice r k f] w (ToE (seedR a b s) (seedE n m k) w) := by
  have hn := ha.le
  have hm := hb.le
  have hkk := hs.le
  have HN := hidden (are_any p q n c m d w hn hm)
  have hla := ha.len
  have hlb := hb.len
  have hls := hs.len
  go_enter Tryd.func10, Tryd.ntmps10
  by_cases hok : okN n m = true
  rotate_left
  · have hok' : okN n m = false := by cases h9 : okN n m with | true => exact absurd h9 hok | false => rfl
    rw [hok'] at HN
    have e1 : seedR a b s = [] := by unfold seedR; rw [if_neg (by rw [hla, hlb]; exact fun h9 => hok h9.1)]
    have e2 : seedE n m k = 13 := by unfold seedE; rw [if_neg (fun h9 => hok h9.1)]
    rw [e1, e2]
    clear e1 e2 hok hok'
    go_wp2_with (first
      | (go_at_call 33; (with_reducible refine (HN.out).mono ?_); rintro e w2 ⟨rfl, rfl⟩)
      | fail)
    go_ret2
    exact nilE _ _
  rw [hok] at HN
  by_cases hk0 : k = 0
  · have e1 : seedR a b s = [] := by unfold seedR; rw [if_neg (by rw [hls]; exact fun h9 => h9.2 hk0)]
    have e2 : seedE n m k = 13 := by unfold seedE; rw [if_neg (fun h9 => h9.2 hk0)]
    rw [e1, e2]
    subst hk0
    clear e1 e2 hok
    go_wp2_with (first
      | (go_at_call 33; (with_reducible refine (HN.out).mono ?_); rintro e w2 ⟨rfl, rfl⟩)
      | fail)
    go_ret2
    exact nilE _ _
  have hkz : ¬ (k : Int) = 0 := by omega
  have hkz' : ((k : Int) == 0) = false := by simpa using hkz
  have hni := (okN_iff n m).1 hok
  have e2 : seedE n m k = 0 := by unfold seedE; rw [if_pos ⟨hok, hk0⟩]
  have e1 : seedR a b s = hmacS (a ++ b) s := by unfold seedR; rw [if_pos (by rw [hla, hlb, hls]; exact ⟨hok, hk0⟩)]
  have hxl : (a ++ b).length = n + m := by rw [List.length_append, hla, hlb]
  have hxr : ∀ z ∈ a ++ b, 0 ≤ z ∧ z ≤ 255 := rng_append ha.rng hb.rng
  have HC := hidden (cat2_any w p q n m c d a b ha hb (by omega))
  rw [e1, e2]
  clear e1 e2
  have HS := hidden (fun W (hW : Below w.heap.size w W) => hs.below hW)
  have HK := hidden (fun W (hW : Below w.heap.size w W) => hK.below hW hK.lt)
  generalize a ++ b = X at *
  have HXL := Is.mk hxl
  have HXR := hidden hxr
  have HM := hidden (fun (q' : Option Addr) (d' : Nat) w' (hW : Below w.heap.size w w') (hY : Byt w' q' (n + m) d' X) => hmac_any q' r (n + m) d' k f X s w' hY (by omega) (HS.out w' hW) (by omega) (HK.out w' hW))
  obtain ⟨T, hT⟩ : ∃ T, n + m = T := ⟨_, rfl⟩
  rw [hT] at HXL HM
  have HDL := Is.mk (hmacS_len X s)
  have HDR := hidden (hmacS_rng X s)
  generalize hmacS X s = D at *
  clear hxl hxr hT hni hok hs ha hb hK hla hlb hls
  go_wp2_with (first
    | (go_at_call 33; (with_reducible refine (HN.out).mono ?_); rintro e w2 ⟨rfl, rfl⟩)
    | (go_at_call 34; (with_reducible refine (HC.out).mono ?_); rintro e w3 ⟨v3, rfl, ho3, hb3⟩; obtain ⟨q3, d3, rfl, hy3⟩ := ho3.bytN rfl HXL.eq HXR.out; have HB3 := hidden hb3; have HM3 := hidden (HM.out q3 d3 w3 hb3 hy3); clear ho3 hb3 hy3 HC)
    | (go_at_call 30; (with_reducible refine (HM3.out).mono ?_); rintro e w4 ⟨v4, rfl, ho4, hb4⟩; have HO4 := hidden (ho4.mono HB3.out.size); have HB4 := hidden (HB3.out.trans (hb4.mono HB3.out.size)); clear ho4 hb4 HM3)
    | fail)
  go_ret2
  exact Own.toE HO4.out HDR.out HB4.out
set_option maxHeartbeats 1600000 in
set_option maxRecDepth 100000 in
theorem krek_any (y p q r : Option Addr) (l g n c m d k f : Nat) (x a b s : List Int) (w : World) (hx : Byt w y l g x) (hl : l ≤ 1000) (ha : Byt w p n c a) (hb : Byt w q m d b) (hs : Byt w r k f s) (hk : k ≤ 1000) (hK : KAt w) :
    Calls Tryd.prog 13 #[.slice y l g, .slice p n c, .slice q m d, .slice r k f] w (ToE (rekR x a b s) (seedE n m k) w) := by
  have hn := ha.le
  have hm := hb.le
  have hkk := hs.le
  have HN := hidden (are_any p q n c m d w hn hm)
  have hla := ha.len
  have hlb := hb.len
  have hls := hs.len
  go_enter Tryd.func13, Tryd.ntmps13
  by_cases hok : okN n m = true
  rotate_left
  · have hok' : okN n m = false := by cases h9 : okN n m with | true => exact absurd h9 hok | false => rfl
    rw [hok'] at HN
    have e1 : rekR x a b s = [] := by unfold rekR; rw [if_neg (by rw [hla, hlb]; exact fun h9 => hok h9.1)]
    have e2 : seedE n m k = 13 := by unfold seedE; rw [if_neg (fun h9 => hok h9.1)]
    rw [e1, e2]
    clear e1 e2 hok hok'
    go_wp2_with (first
      | (go_at_call 33; (with_reducible refine (HN.out).mono ?_); rintro e w2 ⟨rfl, rfl⟩)
      | fail)
    go_ret2
    exact nilE _ _
  rw [hok] at HN
  by_cases hk0 : k = 0
  · have e1 : rekR x a b s = [] := by unfold rekR; rw [if_neg (by rw [hls]; exact fun h9 => h9.2 hk0)]
    have e2 : seedE n m k = 13 := by unfold seedE; rw [if_neg (fun h9 => h9.2 hk0)]
    rw [e1, e2]
    subst hk0
    clear e1 e2 hok
    go_wp2_with (first
      | (go_at_call 33; (with_reducible refine (HN.out).mono ?_); rintro e w2 ⟨rfl, rfl⟩)
      | fail)
    go_ret2
    exact nilE _ _
  have hkz : ¬ (k : Int) = 0 := by omega
  have hkz' : ((k : Int) == 0) = false := by simpa using hkz
  have hni := (okN_iff n m).1 hok
  have e2 : seedE n m k = 0 := by unfold seedE; rw [if_pos ⟨hok, hk0⟩]
  have e1 : rekR x a b s = hmacS x (s ++ (a ++ b)) := by unfold rekR; rw [if_pos (by rw [hla, hlb, hls]; exact ⟨hok, hk0⟩)]
  have hxl : (s ++ (a ++ b)).length = k + (n + m) := by rw [List.length_append, List.length_append, hla, hlb, hls]
  have hxr : ∀ z ∈ s ++ (a ++ b), 0 ≤ z ∧ z ≤ 255 := rng_append hs.rng (rng_append ha.rng hb.rng)
  have HC := hidden (catK w r p q k n m f c d s a b hs ha hb (by omega))
  rw [e1, e2]
  clear e1 e2
  have HX := hidden (fun W (hW : Below w.heap.size w W) => hx.below hW)
  have HK := hidden (fun W (hW : Below w.heap.size w W) => hK.below hW hK.lt)
  generalize s ++ (a ++ b) = X at *
  have HXL := Is.mk hxl
  have HXR := hidden hxr
  have HM := hidden (fun (q' : Option Addr) (d' : Nat) w' (hW : Below w.heap.size w w') (hY : Byt w' q' (k + (n + m)) d' X) => hmac_any y q' l g (k + (n + m)) d' x X w' (HX.out w' hW) (by omega) hY (by omega) (HK.out w' hW))
  obtain ⟨T, hT⟩ : ∃ T, k + (n + m) = T := ⟨_, rfl⟩
  rw [hT] at HXL HM
  have HDL := Is.mk (hmacS_len x X)
  have HDR := hidden (hmacS_rng x X)
  generalize hmacS x X = D at *
  clear hxl hxr hT hni hok hs ha hb hx hK hla hlb hls
  go_wp2_with (first
    | (go_at_call 33; (with_reducible refine (HN.out).mono ?_); rintro e w2 ⟨rfl, rfl⟩)
    | (go_at_call 34; (with_reducible refine (HC.out).mono ?_); rintro e w3 ⟨v3, rfl, ho3, hb3⟩; obtain ⟨q3, d3, rfl, hy3⟩ := ho3.bytN rfl HXL.eq HXR.out; have HB3 := hidden hb3; have HM3 := hidden (HM.out q3 d3 w3 hb3 hy3); clear ho3 hb3 hy3 HC)
    | (go_at_call 30; (with_reducible refine (HM3.out).mono ?_); rintro e w4 ⟨v4, rfl, ho4, hb4⟩; have HO4 := hidden (ho4.mono HB3.out.size); have HB4 := hidden (HB3.out.trans (hb4.mono HB3.out.size)); clear ho4 hb4 HM3)
    | fail)
  go_ret2
  exact Own.toE HO4.out HDR.out HB4.out
end Go.Proofs.YtgpigjoonhghhaaDoor
