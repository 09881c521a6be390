/-
  The law ChainSealed, walked: it returns true for every input, and only adds memory of its own.
-/
import Derived.Test.YtdlcdegfoadajaaChainLaws
namespace Go.Proofs.Ytdlcdegfoadajaa
open Go.RowKit
set_option linter.unusedVariables false

/-- A row of payloads that was laid out. -/
theorem rd_row (w : World) (l : List RawP) (T : TypeId) (hl : l.length ≤ maxLen) (hb : ∀ x ∈ l, Byt w x.p x.n x.m x.b) : RdR (w.alloc (.cells (rowC l).toArray T)) (some ⟨w.heap.size, 0, none⟩) l.length l.length l :=
  ⟨rfl, Nat.le_refl _, hl, fun _ => ⟨_, rfl, fun j u hj => by
    rw [World.cell?_alloc_at _ _ _ _ rfl]
    simpa using hj⟩, fun x hx => (hb x hx).alloc _⟩

/-- A vendor's payload and a sealed one. -/
def twoS (z : Int) (ys : List Int) : List Raw := [⟨43, false, []⟩, ⟨z, false, ys⟩]
theorem two_err (z : Int) (ys : List Int) (hz : z = 46 ∨ z = 53) (hy : ys.length ≤ 65531) : errC (twoS z ys) = 0 := by
  simp only [twoS, errC]
  rw [if_neg (by omega), if_neg (by simp), if_neg (by simp [lastK]), if_neg (by simp; omega), if_neg (by omega), if_neg (by simp)]
theorem two_ends (z : Int) (ys : List Int) (hz : z = 46 ∨ z = 53) : endsC (twoS z ys) = true := by
  rcases hz with rfl | rfl <;> rfl
theorem two_built (z : Int) (ys : List Int) (hz : z = 46 ∨ z = 53) (hy : ys.length ≤ 65531) (first : Int) (hf : 0 ≤ first ∧ first ≤ 255) : buildC (twoS z ys) first = (43, encC first (twoS z ys), 0) :=
  built_ok _ _ (by simp [twoS]) (two_err z ys hz hy) (by omega) (Or.inr (two_ends z ys hz))
theorem two_read (z : Int) (ys : List Int) (hz : z = 46 ∨ z = 53) (hy : ys.length ≤ 65531) (first : Int) (hf : 0 ≤ first ∧ first ≤ 255) : parseTop 43 (encC first (twoS z ys)) = ⟨twoS z ys, first, 0⟩ := by
  rw [top_bd (by omega)]
  exact parse_enc first hf _ 40 (two_err z ys hz hy) (by simp [twoS]) (Or.inr (two_ends z ys hz))
theorem two_more (z : Int) (ys : List Int) (hz : z = 46 ∨ z = 53) (hy : ys.length ≤ 65531) (first : Int) (hf : 0 ≤ first ∧ first ≤ 255) (m : Int) : parseTop 43 (encC first (twoS z ys) ++ [m]) = failC 2 := by
  rw [top_bd (by omega)]
  exact parse_extra first hf [m] (by simp) _ 40 (two_err z ys hz hy) (by simp [twoS]) (two_ends z ys hz)

set_option maxHeartbeats 3200000 in
set_option maxRecDepth 100000 in
theorem chainSealed_walk (p : Option Addr) (n c : Nat) (xs : List Int) (first more : Int) (w : World) (h : Byt w p n c xs) (b0 : c ≤ 140737488351232) (g1 : 0 ≤ first ∧ first ≤ 255) (g2 : 0 ≤ more ∧ more ≤ 255) :
    Calls Try.prog 7 #[.slice p n c, .int .u8 first, .int .u8 more] w fun e w' => e = .returned (.bool true) ∧ Below w.heap.size w w' := by
  obtain ⟨i0, hi0, hz0, hz1, hz2⟩ := info_parts Try.infoByte
  have HX := hidden h
  have HA := hidden (awake03_any w)
  clear h
  go_enter Try.func7, Try.ntmps7
  go_wp2_with (go_at_call 8; (with_reducible refine (HA.out).mono ?_))
  rintro e w1 ⟨rfl, hb⟩
  have HB1 := hidden hb
  clear hb HA
  go_wp2_with (go_at_call 9; (refine (new_any w p n c xs w1 HX.out HB1.out 60 (by omega)).mono ?_))
  rintro e w2 ⟨rfl, hc, hb⟩
  have HC2 := hidden hc
  clear hc hb HB1 HX
  generalize w1.heap.size = k at *
  go_wp2_with (go_at_call 17; (with_reducible refine (next_any w w2 k HC2.out _ ?_).mono ?_); omega)
  rintro e w3 ⟨y, rfl, y0, y1, hc, hg⟩
  obtain ⟨y, rfl⟩ := Int.eq_ofNat_of_zero_le y0
  have HC3 := hidden hc
  clear hc hg HC2
  go_wp2_with (go_at_call 23; (with_reducible refine (mbytes_any w w3 k HC3.out y ?_).mono ?_); omega)
  rintro e w4 ⟨pb, cb, ys, rfl, hbod, hc, hg⟩
  have HC4 := hidden (hc.alloc (.cells #[Value.int .i64 46, .int .i64 53] 3))
  have HBO4 := hidden (hbod.alloc (.cells #[Value.int .i64 46, .int .i64 53] 3))
  have hk3 := HC3.out.lt
  have hk4 := hc.lt
  have HYL := hidden hbod.byt.len
  clear hc hg hbod HC3
  go_wp2_with (go_at_call 17; (refine (next_any w _ k HC4.out _ ?_).mono ?_); omega)
  rintro e w5 ⟨j, rfl, j0, j1, hc, hg⟩
  obtain ⟨j, rfl⟩ := Int.eq_ofNat_of_zero_le j0
  obtain ⟨z, hz2', hta, htl⟩ := list2 j (by omega)
  have hcell := two_cell w4 w5 k j _ htl (by omega) hk4 hg
  have HBO5 := hidden (HBO4.out.grown hg (OffB.low hk3))
  have HB5 := hidden hc.bel
  have HZ := hidden hz2'
  clear hc hg hta htl HC4 HBO4
  have hyl : ys.length ≤ 65531 := by rw [HYL.out]; omega
  have hrd : RdR (w5.alloc (.cells #[.int .i64 43, .bool false, .slice none 0 0, .int .i64 z, .bool false, .slice pb y cb] 43)) (some ⟨w5.heap.size, 0, none⟩) 2 2 [⟨43, false, none, 0, 0, []⟩, ⟨z, false, pb, y, cb, ys⟩] :=
    rd_row w5 [⟨43, false, none, 0, 0, []⟩, ⟨z, false, pb, y, cb, ys⟩] 43 (by simp [maxLen]) (fun x hx => by
      simp at hx
      rcases hx with rfl | rfl
      · exact Byt.nil _ _ _ (Nat.zero_le _)
      · exact HBO5.out.byt)
  have HBD := hidden (build_val _ 2 2 _ first _ hrd 43 (encC first (twoS z ys)) 0 (two_built z ys hz2' hyl first g1))
  have HB6 := hidden (HB5.out.alloc HB5.out.size (.cells #[.int .i64 43, .bool false, .slice none 0 0, .int .i64 z, .bool false, .slice pb y cb] 43))
  have HRE := hidden (two_read z ys hz2' hyl first g1)
  have HMO := hidden (two_more z ys hz2' hyl first g1 more)
  have hel := enc_len first 65531 (twoS z ys) (fun r hr => by
    simp [twoS] at hr
    rcases hr with rfl | rfl
    · simp
    · exact hyl)
  have hel2 : (encC first (twoS z ys)).length ≤ 131070 := by simpa [twoS] using hel
  have HEL := hidden hel2
  clear hrd HB5 hel hel2 hyl
  go_wp2_with (go_at_call 19; (with_reducible refine (HBD.out).mono ?_))
  rintro e w6 ⟨p6, n6, c6, rfl, hy, ho, hb⟩
  have HBO6 := hidden ((HBO5.out.alloc _).below hb)
  have HB7 := hidden (HB6.out.trans (hb.mono HB6.out.size))
  have HY6 := hidden hy
  have hn6 : n6 ≤ 131070 := by rw [← hy.len]; exact HEL.out
  have hn6l := hidden hy.len
  clear hy ho hb HB6 HBO5 HBD hcell
  generalize hLL : encC first (twoS z ys) = L at *
  clear hLL
  have HP := hidden (parseC_any p6 n6 c6 L w6 HY6.out (by omega) 43 _ HRE.out)
  go_wp2_with (go_at_call 14; (with_reducible refine (HP.out).mono ?_))
  rintro e w7 ⟨v, l7, rfl, hr7, hm7, hl7, hb⟩
  have hl2 : l7.length = 2 := by simpa [twoS] using congrArg List.length hm7
  obtain ⟨pv, cv, rfl, hrd7⟩ := hr7.rd hl2
  have HR7 := hidden hrd7
  have HM7 := hidden hm7
  have HL7 := hidden hl2
  have HB8 := hidden (HB7.out.trans (hb.mono HB7.out.size))
  have HY7 := hidden (HY6.out.below hb)
  have HBO7 := hidden (HBO6.out.below hb)
  clear hr7 hrd7 hm7 hl2 hl7 hb HP HB7 HY6 HBO6 HRE HEL
  go_wp2_with (at_builtin; go_loud (refine wpList_append_byt _ rfl _ _ 22 rfl w7.heap.size 5 i0 (.int .u8 0) Try.underlying22 hi0 hz0 hz1 hz2 rfl _ _ rfl (Own.nil _ w7.heap.size 5) _ _ _ _ _ rfl HY7.out rfl ?c1 (Nat.le_refl _) ?_))
  case c1 => first | omega | (simp; omega)
  intro v8 w8 hown hg
  have hb8 : Below w7.heap.size w7 w8 := (Below.refl _ w7).grown hg (Nat.le_refl _) (by intro k hk; simp [Value.ownBlock] at hk)
  have hown8 : Own w8 w7.heap.size 5 v8 L := hown
  have HO8 := hidden hown8
  have HB9 := hidden hb8
  clear hown hown8 hg hb8
  go_wp2_with (at_builtin; go_loud (refine wpList_append_byt _ rfl _ _ 22 rfl w7.heap.size 5 i0 (.int .u8 0) Try.underlying22 hi0 hz0 hz1 hz2 rfl _ _ rfl (HO8.out.alloc _) _ _ _ _ _ rfl (one_byte _ _ more ?c0 ?cc) rfl ?c1 ?c2 ?_))
  case c0 => exact g2
  case cc => rw [World.cell?_alloc_at _ _ _ _ rfl]; rfl
  case c1 => rw [hn6l.out]; omega
  case c2 => have := HB9.out.size; simp; omega
  intro v9 w9 hown hg
  have hb9 := (HB9.out.alloc HB9.out.size (.cells #[.int .u8 more] 5)).grown hg (by have := HB9.out.size; simp; omega) (by intro k hk; have := (HO8.out.lt k hk).1; omega)
  obtain ⟨p9, c9, rfl, hy9⟩ := hown.bytN rfl (show (L ++ [more]).length = n6 + 1 by rw [List.length_append, hn6l.out]; rfl) (rng_append HY7.out.rng (by intro x hx; simp at hx; omega))
  have HP9 := hidden (parseC_any p9 (n6 + 1) c9 (L ++ [more]) w9 hy9 (by omega) 43 _ HMO.out)
  have HB10 := hidden (HB8.out.trans (hb9.mono HB8.out.size))
  have HR9 := hidden (HR7.out.below hb9)
  have HBO9 := hidden (HBO7.out.below hb9)
  clear hown hg hb9 hy9 HY7 HO8 HB9 HR7 HBO7 HB8 HMO
  go_wp2_with (go_at_call 14; (with_reducible refine (HP9.out).mono ?_))
  rintro e w10 ⟨v10, l10, rfl, hr10, hm10, hl10, hb⟩
  have HB11 := hidden (HB10.out.trans (hb.mono HB10.out.size))
  have hrd := HR9.out.below hb
  obtain ⟨g, hpv, d0, d1, d2, dby⟩ := hrd.elem 1 (by rw [HL7.out]; omega)
  have hb1 : (l7[1]'(by rw [HL7.out]; omega)).b = ys := by
    have h1 : (l7.map RawP.raw)[1]? = (twoS z ys)[1]? := by rw [HM7.out]
    simp [twoS, List.getElem?_eq_getElem (show 1 < l7.length by rw [HL7.out]; omega)] at h1
    simpa [RawP.raw] using congrArg Raw.b h1
  rw [hb1] at dby
  subst hpv
  have HEQ := hidden ((requal_any _ pb _ _ y cb ys ys w10 dby (HBO9.out.below hb).byt).mono (R' := fun e w' => e = .returned (.bool true) ∧ ∃ r, w' = w10.drewN r) (fun e w' ⟨h1, h2⟩ => ⟨by rw [h1]; simp, h2⟩))
  clear hrd hr10 hm10 hl10 hb d0 d1 hb1 dby HP9 HB10 HR9 HBO9
  have hff : (first == first) = true := by simp
  simp only [failC]
  go_wp2_with (go_at_call 20; (with_reducible refine (HEQ.out).mono ?_); rintro e w' ⟨rfl, rr, rfl⟩)
  go_ret
  exact ⟨rfl, HB11.out.trans (drew_below ⟨_, rfl⟩)⟩
end Go.Proofs.Ytdlcdegfoadajaa
