/-
  The document's Join, mask and Hmac.
-/
import Derived.Test.YtgpigjoonhghhaaDoorQDZ0
import Derived.Test.YtgpigjoonhghhaaDoorQDConcat
import Derived.Test.YtgpigjoonhghhaaDoorQDRShaSum
import Derived.Test.YtgpigjoonhghhaaDoorQDShaSum
import Derived.Deep.RegionHeld3
namespace Go.Proofs.YtgpigjoonhghhaaDoor
open Go.RowKit
set_option linter.unusedVariables false
set_option maxHeartbeats 800000 in
set_option maxRecDepth 100000 in
theorem rjoin_any (q : Option Addr) (m d : Nat) (l : List Part) (w : World) (h : Parts w q m d l) (hs : sizeOf' l ≤ 140737488355328) :
    Calls Tryd.prog 37 #[.slice q m d] w fun e w' => ∃ v, e = .returned v ∧ Own w' w.heap.size 5 v (bytesOf l) ∧ Below w.heap.size w w' := by
  obtain ⟨i0, hi0, hz0, hz1, hz2⟩ := info_parts Tryd.infoByte
  have H := hidden h
  have hm := h.cap
  have hbig := h.big
  unfold maxLen at hbig
  have HL := hidden h.len
  have HS := hidden (sizeOf_le l)
  have HO0 := hidden (Own.nil w w.heap.size 5)
  clear h
  go_enter Tryd.func37, Tryd.ntmps37
  go_wp2_with fail
  go_loopw [3, 4] (fun v i wx => ∃ k : Nat, k ≤ m ∧ i = .int .i64 k ∧ Own wx w.heap.size 5 v (bytesOf (l.take k)) ∧ Below w.heap.size w wx) (fun _ i _ => m - (intOf i).toNat)
  case atStart => exact ⟨0, by omega, rfl, HO0.out, Below.refl _ _⟩
  case round =>
    obtain ⟨k, hk, rfl, ho, hb⟩ := hrel
    have HO := hidden ho
    have HB := hidden hb
    by_cases hlt : k < m
    · have hlt' : (k : Int) < m := by omega
      have hkl : k < l.length := by rw [HL.out]; exact hlt
      obtain ⟨g, rfl, hc⟩ := (H.out.below hb).mem (by omega)
      have c0 := hc k hkl
      have hbt := bytesOf_take l k hkl
      have hst2 := sizeOf_take l k hkl
      have hsl := HS.out (k + 1)
      have HY := hidden ((H.out.byt _ (List.getElem_mem hkl)).below hb)
      have hlen : (bytesOf (l.take k)).length = sizeOf' (l.take k) := bytesOf_len' (w := w) (fun x hx => H.out.byt x (List.mem_of_mem_take hx))
      generalize l[k] = x at *
      obtain ⟨xp, xn, xc, xx⟩ := x
      simp only at c0 hst2 hbt HY
      have HBT := hidden hbt
      have hroom : (bytesOf (l.take k)).length + xn ≤ 140737488355328 := by omega
      clear hc hbt hlen hst2 hsl ho hb
      go_wp2_with (first
        | (at_builtin; go_loud (refine wpList_append_byt _ rfl _ _ 22 rfl w.heap.size 5 i0 (.int .u8 0) Tryd.underlying22 hi0 hz0 hz1 hz2 rfl _ _ rfl HO.out _ _ _ _ _ rfl HY.out rfl hroom HB.out.size ?_))
        | fail)
      intro v2 w2 ho2 hg2
      have HB2 := hidden (HB.out.grown hg2 HB.out.size (fun i hi => (HO.out.lt i hi).1))
      rw [← HBT.out] at ho2
      have HO2 := hidden ho2
      clear ho2 hg2 HO HB
      go_wp2
      go_roundw
      case rel => exact ⟨k + 1, by omega, by go_num, HO2.out, HB2.out⟩
      case measure => simp [intOf]; omega
    · obtain rfl : k = m := by omega
      have hbt : bytesOf (l.take k) = bytesOf l := by rw [List.take_of_length_le (by rw [HL.out]; exact Nat.le_refl _)]
      rw [hbt] at HO
      clear ho hb
      go_wp2
      go_ret
      exact ⟨_, rfl, HO.out, HB.out⟩
set_option maxHeartbeats 800000 in
set_option maxRecDepth 100000 in
theorem rmask_any (p : Option Addr) (n c : Nat) (key : List Int) (m : Int) (hm : 0 ≤ m ∧ m ≤ 255) (w : World) (h : Byt w p n c key) (hb : n ≤ 1000000) :
    Calls Tryd.prog 55 #[.slice p n c, .int .u8 m] w fun e w' => ∃ v, e = .returned v ∧ Own w' w.heap.size 5 v (maskS m key) ∧ Below w.heap.size w w' := by
  obtain ⟨i0, hi0, hz0, hz1, hz2⟩ := info_parts Tryd.infoByte
  have hlen := h.len
  have H := hidden h
  have HS := hidden (rsum_any p n c key w h hb)
  have HSL : Is (shaS key).length 32 := ⟨shaS_len _⟩
  have HSR : Hid (∀ x ∈ shaS key, 0 ≤ x ∧ x ≤ 255) := shaS_rng _
  have HY1 : Hid (64 < n → keyS key = shaS key) := fun hlt => by unfold keyS; rw [if_pos (by omega)]
  have HY2 : Hid (¬ 64 < n → keyS key = key) := fun hlt => by unfold keyS; rw [if_neg (by omega)]
  have HAL : Is (maskS m key).length 64 := ⟨maskS_len _ _⟩
  have HIN := hidden (maskS_in m key)
  have HOUT := hidden (maskS_out m hm key)
  clear h hlen
  generalize shaS key = S at HS HSL HSR HY1
  generalize keyS key = Y at HY1 HY2 HIN HOUT
  generalize maskS m key = A at HAL HIN HOUT ⊢
  go_enter Tryd.func55, Tryd.ntmps55
  go_upto_if 9 with fail
  go_cut [0] from 7 to 11 (fun a wx => ∃ q k d, a = .slice q k d ∧ k ≤ 64 ∧ Byt wx q k d Y ∧ Below w.heap.size w wx)
  case first =>
    by_cases hlt : 64 < n
    · have h1 : (64 : Int) < n := by omega
      have HYE := Is.mk (HY1.out hlt)
      clear HY1 HY2 HIN HOUT
      go_wp2_with (first
        | (go_at_call 54; (with_reducible refine (HS.out).mono ?_); rintro e w2 ⟨v, rfl, hown, hbel⟩; obtain ⟨q, d, rfl, hbyt⟩ := hown.bytN rfl HSL.eq HSR.out; have HB2 := hidden hbel; have H2 := hidden hbyt; clear hown hbel hbyt)
        | fail)
      go_meet
      case rel => exact ⟨q, 32, d, rfl, by omega, by rw [HYE.eq]; exact H2.out, HB2.out⟩
    · have h1 : ¬ (64 : Int) < n := by omega
      have HYE := Is.mk (HY2.out hlt)
      clear HY1 HY2 HIN HOUT
      go_wp2
      go_meet
      case rel => exact ⟨p, n, c, rfl, by omega, by rw [HYE.eq]; exact H.out, Below.refl _ _⟩
  case rest =>
    obtain ⟨q, k, d, rfl, hk, hy, hb2⟩ := hcut
    have hyl := hy.len
    have HY := hidden hy
    have HB2 := hidden hb2
    have HA0 : Hid (A.take 0 ++ List.replicate (64 - 0) (0 : Int) = List.replicate 64 0) := rfl
    clear hy hb2 HY1 HY2 HS H
    go_wp2_with (at_make; refine wpList_make_byt _ rfl _ _ 22 rfl w.heap.size 5 i0 Tryd.underlying22 hi0 hz0 hz1 hz2 _ _ _ _ 64 64 rfl rfl ?m1 ?m2 ?m3 ?m4 HB2.out.size ?_)
    case m1 => rfl
    case m2 => rfl
    case m3 => omega
    case m4 => omega
    intro w1 hown hg
    have hbc : Below wc.heap.size wc w1 := (Below.refl wc.heap.size wc).grown hg (Nat.le_refl _) (by intro k hk; simp at hk)
    obtain ⟨G, hG⟩ : ∃ G, wc.heap.size = G := ⟨_, rfl⟩
    rw [hG] at hown hbc ⊢
    have hGl : G < w1.heap.size := (hown.lt G rfl).2
    have HO : Hid (Own w1 w.heap.size 5 (.slice (some ⟨G, 0, none⟩) 64 64) (A.take 0 ++ List.replicate (64 - 0) 0)) := hown
    have HBC := hidden hbc
    have HYB : Hid (∀ W, Below G wc W → Byt W q k d Y) := fun W hW => HY.out.below (by rw [hG]; exact hW)
    have HWG : Hid (w.heap.size ≤ G) := by rw [← hG]; exact HB2.out.size
    have HG := Is.mk hG
    clear hown hg hbc hG HY
    go_wp2
    go_loopw [6] (fun i wr => ∃ j : Nat, j ≤ 64 ∧ i = .int .i64 j ∧ Own wr w.heap.size 5 (.slice (some ⟨G, 0, none⟩) 64 64) (A.take j ++ List.replicate (64 - j) 0) ∧ Below G wc wr) (fun i _ => 64 - (intOf i).toNat)
    case atStart => exact ⟨0, by omega, rfl, HO.out, HBC.out⟩
    case round =>
      obtain ⟨j, hj, rfl, ho, hbr⟩ := hrel
      have HBR := hidden hbr
      have HO := hidden ho
      by_cases hlt : j < 64
      · have hll : (A.take j ++ List.replicate (64 - j) (0 : Int)).length = 64 := by rw [List.length_append, List.length_take, List.length_replicate, HAL.eq]; omega
        obtain ⟨g', c', hv, -, hgl, hc, hfz⟩ := ho.at_ hll (by omega)
        simp only [Value.slice.injEq, Option.some.injEq, Addr.mk.injEq, and_true, true_and] at hv
        obtain ⟨rfl, rfl⟩ := hv
        have c0 := hc j hlt
        have f0 := hfz j
        have hgw : G < wr.heap.size := hgl
        have HST : Hid (∀ v, v = A.getD j 0 → (A.take j ++ List.replicate (64 - j) 0).set j v = A.take (j + 1) ++ List.replicate (64 - (j + 1)) 0) := fun v hv => by
          rw [set_fill _ 64 j v (by rw [List.length_take, HAL.eq]; omega) hlt, hv, take_getD A j (by rw [HAL.eq]; exact hlt)]
        have HTW : Hid (∀ (l : List Int) (a b : Int), (l.set j a).set j b = l.set j b) := fun l a b => List.set_set ..
        have HLL := Is.mk hll
        generalize (A.take j ++ List.replicate (64 - j) (0 : Int)).getD j 0 = z at c0
        clear hc hfz ho hbr hll
        by_cases hjk : j < k
        · obtain ⟨b, o, rfl, hcy⟩ := (HYB.out wr HBR.out).at_ (by omega)
          have cy := hcy j hjk
          have hbG : ¬ b = G := by
            have := (HYB.out wc (Below.refl _ _)).lt (by omega)
            rw [HG.eq] at this
            omega
          have hbG' : ¬ G = b := fun e => hbG e.symm
          have HAE := hidden (HIN.out j (by rw [hyl]; exact hjk))
          have hjk' : (j : Int) < k := by omega
          generalize Y.getD j 0 = y at cy HAE
          clear hcy
          go_upto_region 9 with fail
          go_region
          all_goals
            go_wp2
            go_roundw
            case rel =>
              refine ⟨j + 1, by omega, by go_num, ?_, ((HBR.out.setCell (p := ⟨G, j, none⟩) (Nat.le_refl _) _).setCell (p := ⟨G, j, none⟩) (Nat.le_refl _) _).drew⟩
              have := ((HO.out.set HLL.eq j m).set (by rw [List.length_set]; exact HLL.eq) j (bits .xor .u8 m y)).drew
              rw [HTW.out, HST.out _ HAE.out.symm] at this
              exact this
            case measure => simp [intOf]; omega
        · have HAE := hidden (HOUT.out j (by rw [hyl]; exact hjk) hlt)
          have hjk' : ¬ (j : Int) < k := by omega
          go_wp2
          go_roundw
          case rel => exact ⟨j + 1, by omega, by go_num, by rw [← HST.out m HAE.out.symm]; exact HO.out.set HLL.eq j m, HBR.out.setCell (p := ⟨G, j, none⟩) (Nat.le_refl _) _⟩
          case measure => simp [intOf]; omega
      · obtain rfl : j = 64 := by omega
        have hE : A.take 64 ++ List.replicate (64 - 64) (0 : Int) = A := by
          rw [List.take_of_length_le (by rw [HAL.eq]; exact Nat.le_refl _)]
          simp
        rw [hE] at ho
        have HOE := hidden ho
        clear ho hbr hE HO
        go_wp2
        go_ret
        exact ⟨_, rfl, HOE.out, HB2.out.trans (HBR.out.mono HWG.out)⟩
theorem rcat2_any (w : World) (p0 p1 : Option Addr) (n0 n1 c0 c1 : Nat) (x0 x1 : List Int) (h0 : Byt w p0 n0 c0 x0) (h1 : Byt w p1 n1 c1 x1) (hs : n0 + n1 ≤ 140737488355328) :
    Calls Tryd.prog 37 #[.slice (some ⟨w.heap.size, 0, none⟩) 2 2] (w.alloc (.cells #[.slice p0 n0 c0, .slice p1 n1 c1] 22)) fun e w' =>
      ∃ v, e = .returned v ∧ Own w' w.heap.size 5 v (x0 ++ x1) ∧ Below w.heap.size w w' := by
  have := rjoin_any (some ⟨w.heap.size, 0, none⟩) 2 2 _ _ (two_parts w p0 p1 n0 n1 c0 c1 x0 x1 22 h0 h1) (by simp [sizeOf']; omega)
  simp only [bytesOf, List.flatMap_cons, List.flatMap_nil, List.append_nil, World.size_alloc] at this
  refine this.mono ?_
  rintro e w' ⟨v, he, ho, hb⟩
  exact ⟨v, he, ho.mono (by omega), ((Below.refl w.heap.size w).alloc (Nat.le_refl _) _).trans (hb.mono (by omega))⟩
set_option maxHeartbeats 800000 in
set_option maxRecDepth 100000 in
theorem rhmac_any (p q : Option Addr) (n c m d : Nat) (key b : List Int) (w : World) (h : Byt w p n c key) (hn : n ≤ 1000000) (k : Byt w q m d b) (hm : m ≤ 999000) :
    Calls Tryd.prog 36 #[.slice p n c, .slice q m d] w fun e w' => ∃ v, e = .returned v ∧ Own w' w.heap.size 5 v (hmacS key b) ∧ Below w.heap.size w w' := by
  obtain ⟨R, hR⟩ : ∃ R, hmacS key b = R := ⟨_, rfl⟩
  rw [hR]
  unfold hmacS at hR
  have HC := hidden (maskS_len 92 key)
  have HA := hidden (maskS_len 54 key)
  have HAR : Hid (∀ x ∈ maskS 54 key, 0 ≤ x ∧ x ≤ 255) := maskL_rng 54 _
  have HCR : Hid (∀ x ∈ maskS 92 key, 0 ≤ x ∧ x ≤ 255) := maskL_rng 92 _
  have HM54 := hidden (fun W (hw : Below w.heap.size w W) => rmask_any p n c key 54 (by omega) W (h.below hw) hn)
  have HM92 := hidden (rmask_any p n c key 92 (by omega) w h hn)
  generalize maskS 54 key = A at HA HAR HM54 hR
  generalize maskS 92 key = C at HC HCR HM92 hR
  have HIB : Hid (∀ W p0 c0, Byt W p0 64 c0 A → Byt W q m d b → Calls Tryd.prog 37 #[.slice (some ⟨W.heap.size, 0, none⟩) 2 2] (W.alloc (.cells #[.slice p0 64 c0, .slice q m d] 22)) fun e w' =>
      ∃ v, e = .returned v ∧ Own w' W.heap.size 5 v (A ++ b) ∧ Below W.heap.size W w') := fun W p0 c0 h0 h1 => rcat2_any W p0 q 64 m c0 d A b h0 h1 (by omega)
  have hAl : (A ++ b).length = 64 + m := by rw [List.length_append, HA.out, k.len]
  have hAr : ∀ x ∈ A ++ b, 0 ≤ x ∧ x ≤ 255 := rng_append HAR.out k.rng
  have HY : Hid (∀ W, Below w.heap.size w W → Byt W q m d b) := fun W hW => k.below hW
  have HS1 : Hid (∀ W q1 d1, Byt W q1 (64 + m) d1 (A ++ b) → Calls Tryd.prog 54 #[.slice q1 (64 + m) d1] W fun e w' => ∃ v, e = .returned v ∧ Own w' W.heap.size 5 v (shaS (A ++ b)) ∧ Below W.heap.size W w') := fun W q1 d1 hB => rsum_any q1 (64 + m) d1 _ W hB (by omega)
  generalize A ++ b = X at hAl hAr HS1 HIB hR
  have HXL := Is.mk hAl
  have HXR := hidden hAr
  have HDL : Is (shaS X).length 32 := ⟨shaS_len X⟩
  have HDR : Hid (∀ x ∈ shaS X, 0 ≤ x ∧ x ≤ 255) := shaS_rng X
  generalize shaS X = D at HS1 HDL HDR hR
  have HOB : Hid (∀ W p0 c0 p1 c1, Byt W p0 64 c0 C → Byt W p1 32 c1 D → Calls Tryd.prog 37 #[.slice (some ⟨W.heap.size, 0, none⟩) 2 2] (W.alloc (.cells #[.slice p0 64 c0, .slice p1 32 c1] 22)) fun e w' =>
      ∃ v, e = .returned v ∧ Own w' W.heap.size 5 v (C ++ D) ∧ Below W.heap.size W w') := fun W p0 c0 p1 c1 h0 h1 => rcat2_any W p0 p1 64 32 c0 c1 C D h0 h1 (by omega)
  have HEL : Is (C ++ D).length 96 := ⟨by rw [List.length_append, HC.out, HDL.eq]⟩
  have HER : Hid (∀ x ∈ C ++ D, 0 ≤ x ∧ x ≤ 255) := rng_append HCR.out HDR.out
  have HS2 : Hid (∀ W q1 d1, Byt W q1 96 d1 (C ++ D) → Calls Tryd.prog 54 #[.slice q1 96 d1] W fun e w' => ∃ v, e = .returned v ∧ Own w' W.heap.size 5 v R ∧ Below W.heap.size W w') := fun W q1 d1 hB => by
    have := rsum_any q1 96 d1 _ W hB (by omega)
    rw [hR] at this
    exact this
  generalize C ++ D = E at HOB HEL HER HS2 hR
  clear h k hR hAl hAr
  go_enter Tryd.func36, Tryd.ntmps36
  go_wp2_with (first
    | (go_at_call 55; (with_reducible refine (HM92.out).mono ?_); rintro e w2 ⟨v2, rfl, hown2, hbel2⟩; obtain ⟨q2, d2, rfl, hbyt2⟩ := hown2.bytN rfl HC.out HCR.out; have HB2 := hidden hbel2; have H2 := hidden hbyt2; clear hown2 hbel2 hbyt2)
    | (go_at_call 55; (with_reducible refine (HM54.out w2 HB2.out).mono ?_); rintro e w3 ⟨v3, rfl, hown3, hbel3⟩; obtain ⟨q3, d3, rfl, hbyt3⟩ := hown3.bytN rfl HA.out HAR.out; have HB3 := hidden (HB2.out.trans (hbel3.mono HB2.out.size)); have H3 := hidden hbyt3; have H23 := hidden (H2.out.below hbel3); clear hown3 hbel3 hbyt3)
    | (go_at_call 37; (with_reducible refine (HIB.out w3 _ _ H3.out (HY.out _ HB3.out)).mono ?_); rintro e w4 ⟨v4, rfl, hown4, hbel4⟩; obtain ⟨q4, d4, rfl, hbyt4⟩ := hown4.bytN rfl HXL.eq HXR.out; have HB4 := hidden (HB3.out.trans (hbel4.mono HB3.out.size)); have H4 := hidden hbyt4; have H24 := hidden (H23.out.below hbel4); clear hown4 hbel4 hbyt4)
    | (go_at_call 54; (with_reducible refine (HS1.out w4 _ _ H4.out).mono ?_); rintro e w5 ⟨v5, rfl, hown5, hbel5⟩; obtain ⟨q5, d5, rfl, hbyt5⟩ := hown5.bytN rfl HDL.eq HDR.out; have HB5 := hidden (HB4.out.trans (hbel5.mono HB4.out.size)); have H5 := hidden hbyt5; have H25 := hidden (H24.out.below hbel5); clear hown5 hbel5 hbyt5)
    | (go_at_call 37; (with_reducible refine (HOB.out w5 _ _ _ _ H25.out H5.out).mono ?_); rintro e w7 ⟨v7, rfl, hown7, hbel7⟩; obtain ⟨q7, d7, rfl, hbyt7⟩ := hown7.bytN rfl HEL.eq HER.out; have HB7 := hidden (HB5.out.trans (hbel7.mono HB5.out.size)); have H7 := hidden hbyt7; clear hown7 hbel7 hbyt7)
    | (go_at_call 54; (with_reducible refine (HS2.out w7 _ _ H7.out).mono ?_); rintro e w8 ⟨v8, rfl, hown8, hbel8⟩; have HB8 := hidden (HB7.out.trans (hbel8.mono HB7.out.size)); have HO8 := hidden (hown8.mono HB7.out.size); clear hown8 hbel8)
    | fail)
  go_ret
  exact ⟨_, rfl, HO8.out, HB8.out⟩
end Go.Proofs.YtgpigjoonhghhaaDoor
