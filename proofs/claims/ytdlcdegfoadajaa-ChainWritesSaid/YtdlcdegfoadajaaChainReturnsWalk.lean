/-
  The law ChainReturns, walked: it returns true for every input, and only adds memory of its own.
-/
import Derived.Test.YtdlcdegfoadajaaChainSealedWalk
namespace Go.Proofs.Ytdlcdegfoadajaa
open Go.RowKit
set_option linter.unusedVariables false

theorem DS.below {W w wr w' : World} {k : Nat} {v : Value} {l : List RawP} (h : DS W w wr k v l) (hb : Below wr.heap.size wr w') : DS W w w' k v l :=
  ⟨h.cod.below hb, grown_trans h.gr (grown_of_below hb _), h.rws.below hb, h.klt⟩
theorem RdR.src {w : World} {p : Option Addr} {n c : Nat} {l : List RawP} (h : RdR w p n c l) : SrcR w p n l :=
  ⟨h.len, fun h0 => by
    obtain ⟨g, e, hc⟩ := h.mem h0
    exact ⟨_, e, fun j u hj => by rw [WideShapes.add_plain, Nat.zero_add]; exact hc j u hj⟩⟩

theorem or7 (x t : Int) (hx : x = 0 ∨ x = 128) (h0 : 0 ≤ t) (h1 : t < 128) : 128 ≤ bits .or .u8 x t ↔ 128 ≤ x := by
  obtain ⟨t, rfl⟩ := Int.eq_ofNat_of_zero_le h0
  have k0 : ∀ j : Fin 128, ¬ 128 ≤ bits .or .u8 0 ((j.val : Nat) : Int) := by decide +kernel
  have k1 : ∀ j : Fin 128, 128 ≤ bits .or .u8 128 ((j.val : Nat) : Int) := by decide +kernel
  rcases hx with rfl | rfl
  · have := k0 ⟨t, by omega⟩
    simp at this
    omega
  · have := k1 ⟨t, by omega⟩
    simp at this
    omega
theorem and127 (x : Int) (h : 0 ≤ x ∧ x ≤ 255) : 0 ≤ bits .and .u8 x 127 ∧ bits .and .u8 x 127 < 128 := by
  have := bits_mask .u8 8 (by decide) wraps_u8 7 (by decide) x h.1 (by omega)
  rw [show (2 : Int) ^ 7 - 1 = 127 from rfl] at this
  rw [this]
  omega
/-- The second byte of a chain that was written. -/
theorem enc_second (last : Int) (l : List Raw) (h : 3 < (encC last l).length) : (encC last l).getD 1 0 = 0 ∨ (encC last l).getD 1 0 = 128 := by
  cases l with
  | nil => simp [encC] at h
  | cons r l =>
    simp [encC, oneC]

/-- A vendor's payload ahead of a chain. -/
theorem cons_built (hd : Raw) (hk : hd.k = 43) (hb : hd.b.length ≤ 65531) (l : List RawP) (last : Int) (h : GoodL l last) : buildC (hd :: l.map RawP.raw) last = (43, oneC (nextC last (l.map RawP.raw)) hd ++ encC last (l.map RawP.raw), 0) := by
  have he : errC (hd :: l.map RawP.raw) = 0 := by
    rw [errC, if_neg (by omega), if_neg (by omega), if_neg (by simp [hk, lastK])]
    exact h.ok.err
  have hends : last = 0 ∨ endsC (hd :: l.map RawP.raw) = true := by
    rcases h.ok.ends with e | e
    · exact Or.inl e
    · right
      cases hl : l.map RawP.raw with
      | nil => rw [hl] at e; simp [endsC] at e
      | cons a m => rw [hl] at e; exact e
  have := built_ok (hd :: l.map RawP.raw) last (by have := h.few; simp; omega) he (by have := h.ok.rng; omega) hends
  rw [this]
  simp [nextC, hk, encC]
theorem one_built (hd : Raw) (hk : hd.k = 43) (hb : hd.b.length ≤ 65531) : buildC [hd] 0 = (43, oneC 0 hd, 0) := by
  have he : errC [hd] = 0 := by
    rw [errC, if_neg (by omega), if_neg (by omega), if_neg (by simp)]
    rfl
  rw [built_ok [hd] 0 (by simp) he (by omega) (Or.inl rfl)]
  simp [nextC, hk, encC]
theorem one_set (hd : Raw) (a b : Int) (h : b % 256 = a) : (oneC 0 hd).set 0 a = oneC b hd := by
  simp [oneC, h]

set_option maxHeartbeats 3200000 in
set_option maxRecDepth 100000 in
theorem chainReturns_walk (p : Option Addr) (n c : Nat) (xs : List Int) (bs : Int) (w : World) (h : Byt w p n c xs) (b0 : c ≤ 140737488351232) (g1 : 0 ≤ bs ∧ bs ≤ 255) :
    Calls Try.prog 5 #[.slice p n c, .int .u8 bs] w fun e w' => e = .returned (.bool true) ∧ Below w.heap.size w w' := by
  obtain ⟨i0, hi0, hz0, hz1, hz2⟩ := info_parts Try.infoByte
  have HX := hidden h
  have HA := hidden (awake03_any w)
  clear h
  go_enter Try.func5, Try.ntmps5
  go_wp2_with (go_at_call 8; (with_reducible refine (HA.out).mono ?_))
  rintro e w1 ⟨rfl, hb⟩
  have HB1 := hidden hb
  clear hb HA
  go_wp2_with (go_at_call 9; (refine (new_any w p n c xs w1 HX.out HB1.out 120 (by omega)).mono ?_))
  rintro e w2 ⟨rfl, hc, hb⟩
  have HC2 := hidden hc
  clear hc hb HB1 HX
  generalize w1.heap.size = k at *
  go_wp2_with (go_at_call 10; (with_reducible refine (draw_any w w2 k HC2.out).mono ?_))
  rintro e w3 ⟨v, l, last, rfl, hgood, hds⟩
  obtain ⟨pv, cv, rfl, hrd⟩ := hds.rws.rd rfl
  have HG := hidden hgood
  have HD3 := hidden hds
  have HBD := hidden (build_val pv l.length cv l last w3 hrd _ _ _ hgood.built)
  have HNB := hidden (next_bd hgood.ok.err)
  have HRE := hidden hgood.read
  have HNX := hidden (next_byte last (l.map RawP.raw) hgood.ok.rng hgood.ok.err hgood.ok.ends)
  have HCB := hidden (fun hd hk hb => cons_built hd hk hb l last hgood)
  have HSH := hidden hgood.short
  have HSE := hidden (enc_second last (l.map RawP.raw))
  have hkk := next_bd hgood.ok.err
  have hfew := hgood.few
  clear hgood hds hrd HC2
  go_wp2_with (go_at_call 19; (with_reducible refine (HBD.out).mono ?_))
  rintro e w4 ⟨pb, nb, cb, rfl, hy, ho, hb⟩
  have HD4 := hidden (HD3.out.below hb)
  have HY4 := hidden hy
  have hnb : nb ≤ 60 := by rw [← hy.len]; exact HSH.out
  have HNL := hidden hy.len
  clear hy ho hb HD3 HBD HSH
  generalize hkv : nextC 0 (l.map RawP.raw) = kk at *
  generalize hLL : encC last (l.map RawP.raw) = L at *
  clear hkv hLL
  have HP := hidden (parseC_any pb nb cb L w4 HY4.out (by omega) kk _ HRE.out)
  go_wp2_with (go_at_call 14; (with_reducible refine (HP.out).mono ?_))
  rintro e w5 ⟨v5, l5, rfl, hr5, hm5, hl5, hb⟩
  have hl5' : l5.length = l.length := by simpa using congrArg List.length hm5
  obtain ⟨p5, c5, rfl, hrd5⟩ := hr5.rd rfl
  have hd5 := HD4.out.below hb
  obtain ⟨pv', cv', he, hrl5⟩ := hd5.rws.rd rfl
  simp at he
  obtain ⟨rfl, rfl⟩ := he
  have HS := hidden (same_yes p5 pv l5.length c5 l.length cv l5 l w5 hrd5 hrl5 hm5)
  have HD5 := hidden hd5
  have HY5 := hidden (HY4.out.below hb)
  have hll : (last != last) = false := by simp
  clear hr5 hm5 hl5 hrd5 hb HP HD4 HY4 hl5' hd5 hrl5
  go_wp2_with (go_at_call 16; (with_reducible refine (HS.out).mono ?_))
  rintro e w6 ⟨rfl, hb⟩
  have HD6 := hidden (HD5.out.below hb)
  have HY6 := hidden (HY5.out.below hb)
  clear hb HS HD5 HY5 hll
  go_upto_if 66 with fail
  go_cut [9, 14, 15, 16] from 64 to 90 (fun b y1 y2 y3 w' => ∃ p9 c9, b = .slice p9 nb c9 ∧ DS w w2 w' k (.slice pv l.length cv) l)
  case first =>
    by_cases h3 : 3 < nb
    · have hcap := HY6.out.cap
      go_wp2_with (at_builtin; go_loud (refine wpList_append_byt _ rfl _ _ 22 rfl w6.heap.size 5 i0 (.int .u8 0) Try.underlying22 hi0 hz0 hz1 hz2 rfl _ _ rfl (Own.nil _ w6.heap.size 5) _ _ _ _ _ rfl HY6.out rfl ?c1 (Nat.le_refl _) ?_))
      case c1 => first | omega | (simp; omega)
      intro v7 w7 hown hg
      have hown7 : Own w7 w6.heap.size 5 v7 L := hown
      have hb7 : Below w6.heap.size w6 w7 := (Below.refl _ w6).grown hg (Nat.le_refl _) (by intro k hk; simp [Value.ownBlock] at hk)
      obtain ⟨g7, c7, rfl, hg70, hg71, hcell, hfr⟩ := hown7.at_ HNL.out (by omega)
      have hx1 := hcell 1 (by omega)
      have hf1 := hfr 1
      have hcap7 : nb ≤ c7 := by
        obtain ⟨_, _, he, hb⟩ := hown7.bytN rfl HNL.out HY6.out.rng
        simp at he
        rw [he.2]
        exact hb.cap
      have hse := HSE.out (by rw [HNL.out]; exact h3)
      have hor : ∀ t : Int, 0 ≤ t → t < 128 → (128 ≤ bits .or .u8 (L.getD 1 0) t ↔ 128 ≤ L.getD 1 0) := fun t h0 h1 => or7 _ t hse h0 h1
      have HPB := hidden (fun y hy => parse_bits 40 kk L y (by rw [HNL.out]; omega) hy)
      have HOR := hidden hor
      have HO7 := hidden hown7
      have HB7 := hidden hb7
      have HRG := hidden HY6.out.rng
      generalize hx1v : L.getD 1 0 = x1 at *
      clear hx1v hown hown7 hg hb7 hcell hfr hse hor
      have hb8 := fun v => HB7.out.setCell (p := ⟨g7, 1, none⟩) hg70 v
      have hy8 : ∀ y : Int, 0 ≤ y ∧ y ≤ 255 → Byt (w7.setCell ⟨g7, 1, none⟩ (.int .u8 y)) (some ⟨g7, 0, none⟩) nb c7 (L.set 1 y) := fun y hy => by
        obtain ⟨_, _, he, hb⟩ := (HO7.out.set HNL.out 1 y).bytN rfl (show (L.set 1 y).length = nb by rw [List.length_set, HNL.out]) (rng_set HRG.out 1 hy)
        simp at he
        obtain ⟨rfl, rfl⟩ := he
        exact hb
      have HY8 := hidden hy8
      have HB8 := hidden hb8
      clear hb8 hy8
      have HPP := hidden (fun (y : Int) (hy : 128 ≤ y ↔ 128 ≤ x1) (w : World) (hb : Byt w (some ⟨g7, 0, none⟩) nb c7 (L.set 1 y)) => parseC_any (some ⟨g7, 0, none⟩) nb c7 (L.set 1 y) w hb (by omega) kk _ (show parseTop kk (L.set 1 y) = ⟨l.map RawP.raw, last, 0⟩ by rw [top_bd hkk, HPB.out y hy, ← top_bd hkk]; exact HRE.out))
      go_wp2_with (go_at_call 14; (with_reducible refine (HPP.out (bits .or .u8 x1 (bits .and .u8 bs 127)) ?cy _ (HY8.out _ ?cz)).mono ?_))
      case cy =>
        have ht := and127 bs g1
        exact HOR.out _ (by omega) (by omega)
      case cz => exact ⟨bits_lo_u8 _ _ _, bits_hi_u8 _ _ _⟩
      rintro e w8 ⟨v8, l8, rfl, hr8, hm8, hl8, hb⟩
      have hb68 := (HB8.out (.int .u8 (bits .or .u8 x1 (bits .and .u8 bs 127)))).trans (hb.mono (by have := HB7.out.size; simpa [World.setCell] using this))
      obtain ⟨p8, c8, rfl, hrd8⟩ := hr8.rd rfl
      have hd8 := HD6.out.below hb68
      obtain ⟨pv', cv', he, hrl8⟩ := hd8.rws.rd rfl
      simp at he
      obtain ⟨rfl, rfl⟩ := he
      have HS := hidden (same_yes p8 pv l8.length c8 l.length cv l8 l w8 hrd8 hrl8 hm8)
      have HD8 := hidden hd8
      clear hr8 hm8 hl8 hrd8 hb hb68 hd8 hrl8 HPP HY8 HB8 HO7 HB7 hx1 hf1 HPB HOR
      go_wp2_with (go_at_call 16; (with_reducible refine (HS.out).mono ?_))
      rintro e w9 ⟨rfl, hb⟩
      have HD9 := hidden (HD8.out.below hb)
      clear hb HD8 HS
      go_wp2
      go_meet
      case rel => exact ⟨_, _, rfl, HD9.out⟩
    · have h3' : ¬ (3 : Int) < nb := by omega
      go_wp2
      go_meet
      case rel => exact ⟨pb, cb, rfl, HD6.out⟩
  case rest =>
    obtain ⟨p9, c9, rfl, hds⟩ := hcut
    have HDc := hidden hds
    have hgr2 := HDc.out.gr.size
    have hw2 : w.heap.size ≤ w2.heap.size := by have := HDc.out.klt; have := HDc.out.cod.base; omega
    clear hds HD6 HY6 HRE HSE
    go_wp2_with (go_at_call 17; (with_reducible refine (next_ds w w2 _ k _ _ HDc.out _ ?_).mono ?_); omega)
    rintro e u1 ⟨y, rfl, y0, y1, hd, hg⟩
    obtain ⟨y, rfl⟩ := Int.eq_ofNat_of_zero_le y0
    have HD1 := hidden hd
    clear hd hg HDc
    go_wp2_with (go_at_call 23; (with_reducible refine (bytes_ds w w2 _ k _ _ HD1.out y ?_).mono ?_); omega)
    rintro e u2 ⟨ph, ch, ys, rfl, hbod, hd, hg⟩
    have hyl : ys.length = y := hbod.byt.len
    have hrd := rd_one u2 43 false ph y ch ys 43 hbod.byt
    have HR2 := hidden hrd
    have HBO2 := hidden (hbod.alloc (.cells #[.int .i64 43, .bool false, .slice ph y ch] 43))
    have HD2 := hidden (hd.alloc (.cells #[.int .i64 43, .bool false, .slice ph y ch] 43))
    have HB1 := hidden (build_val _ 1 1 _ 0 _ hrd 43 (oneC 0 ⟨43, false, ys⟩) 0 (one_built ⟨43, false, ys⟩ rfl (by simp only; omega)))
    have HCC := hidden (HCB.out ⟨43, false, ys⟩ rfl (by simp only; omega))
    have hone := oneC_len 0 ⟨43, false, ys⟩
    simp only [hyl] at hone
    have HONE := hidden hone
    have hone2 := oneC_len (nextC last (l.map RawP.raw)) ⟨43, false, ys⟩
    simp only [hyl] at hone2
    have HONE2 := hidden hone2
    have HST := hidden (one_set ⟨43, false, ys⟩ kk _ HNX.out)
    generalize nextC last (l.map RawP.raw) = nx at *
    clear hbod hd hg hrd hyl hone hone2 HD1 HNX HCB
    go_wp2_with (go_at_call 19; (with_reducible refine (HB1.out).mono ?_))
    rintro e u3 ⟨pp, np, cp, rfl, hy, ho, hb⟩
    have hnp : np = y + 4 := by rw [← hy.len, HONE.out]
    subst hnp
    have HBP3 := hidden (show Bod u3 w2.heap.size pp (y + 4) cp (oneC 0 ⟨43, false, ys⟩) from by
      obtain ⟨p', c', he, hb'⟩ := ho.bod HONE.out hy.rng
      simp at he
      obtain ⟨rfl, rfl⟩ := he
      exact hb'.mono HD2.out.gr.size)
    have HD3 := hidden (HD2.out.below hb)
    have HR3 := hidden (HR2.out.below hb)
    have HBO3 := hidden (HBO2.out.below hb)
    clear hy ho hb HB1 HD2 HR2 HBO2
    have hs3 := HD3.out.gr.size
    go_wp2_with (at_builtin; go_loud (refine wpList_append_rws _ rfl _ _ rfl w2.heap.size _ [] rfl (Rws.nil _ _) _ _ _ _ rfl HR3.out.src ?c1 ?c2 hs3 ?_))
    case c1 =>
      intro x hx
      rw [List.mem_singleton.1 hx]
      exact HBO3.out
    case c2 => simp
    intro va u4 hra hga
    have hb4 : Below u3.heap.size u3 u4 := (Below.refl _ u3).grown hga (Nat.le_refl _) (by intro j hj; simp [Value.ownBlock] at hj)
    have HRA := hidden hra
    have HD4 := hidden (HD3.out.below hb4)
    have HBP4 := hidden (HBP3.out.below hb4)
    clear hra hga hb4 hs3 HD3 HR3 HBO3 HBP3
    have hs4 := HD4.out.gr.size
    go_wp2_with (at_builtin; go_loud (refine wpList_append_rws _ rfl _ _ rfl w2.heap.size _ _ rfl HRA.out _ _ _ _ rfl HD4.out.rws.src HD4.out.rws.bods ?c2 hs4 ?_))
    case c2 => simp; omega
    intro vb u5 hrb hgb
    have HBP5 := hidden (HBP4.out.grown hgb HRA.out.offB)
    have HB5 := hidden (HD4.out.cod.bel.grown hgb HD4.out.cod.bel.size (fun j hj => by have := (HRA.out.own.lt j hj).1; omega))
    obtain ⟨pq, cq, rfl, hrdb⟩ := hrb.rd (n := l.length + 1) (by simp)
    have HBD := hidden (build_val pq _ cq _ last u5 hrdb 43 (oneC nx ⟨43, false, ys⟩ ++ L) 0 (by simpa [RawP.raw] using HCC.out))
    clear hrb hgb hrdb hs4 HRA HD4 HBP4
    go_wp2_with (go_at_call 19; (with_reducible refine (HBD.out).mono ?_))
    rintro e u6 ⟨p6, n6, c6, rfl, hy6, ho6, hb⟩
    have hn6 : n6 = y + 4 + nb := by rw [← hy6.len, List.length_append, HONE2.out, HNL.out]
    subst hn6
    have HY6 := hidden hy6
    have HB6 := hidden (HB5.out.trans (hb.mono HB5.out.size))
    have HBP6 := hidden (HBP5.out.below hb)
    clear hy6 ho6 hb HB5 HBP5 HBD
    go_wp2_with (at_builtin; go_loud (refine wpList_append_byt _ rfl _ _ 22 rfl u6.heap.size 5 i0 (.int .u8 0) Try.underlying22 hi0 hz0 hz1 hz2 rfl _ _ rfl (Own.nil _ u6.heap.size 5) _ _ _ _ _ rfl HBP6.out.byt rfl ?c1 (Nat.le_refl _) ?_))
    case c1 => first | omega | (simp; omega)
    intro v7 w7 hown hg
    have hown7 : Own w7 u6.heap.size 5 v7 (oneC 0 ⟨43, false, ys⟩) := hown
    have hb7 : Below u6.heap.size u6 w7 := (Below.refl _ u6).grown hg (Nat.le_refl _) (by intro k hk; simp [Value.ownBlock] at hk)
    obtain ⟨g7, c7, rfl, hg70, hg71, hcell, hfr⟩ := hown7.at_ HONE.out (by omega)
    have hx0 := hcell 0 (by omega)
    have hf0 := hfr 0
    have hw8 : IntKind.u8.wrap kk = kk := by rw [IntKind.wrap_u8]; omega
    have hy8 : Byt (w7.setCell ⟨g7, 0, none⟩ (.int .u8 kk)) (some ⟨g7, 0, none⟩) (y + 4) c7 (oneC nx ⟨43, false, ys⟩) := by
      obtain ⟨_, _, he, hb⟩ := (hown7.set HONE.out 0 kk).bytN rfl (show ((oneC 0 ⟨43, false, ys⟩).set 0 kk).length = y + 4 by rw [List.length_set, HONE.out]) (rng_set HBP6.out.byt.rng 0 hkk)
      simp at he
      obtain ⟨rfl, rfl⟩ := he
      rw [HST.out] at hb
      exact hb
    have hb8 := hb7.setCell (p := ⟨g7, 0, none⟩) hg70 (.int .u8 kk)
    have hfront := (HY6.out.below hb8).front (y + 4) (by omega)
    rw [List.take_left' HONE2.out] at hfront
    have hcap6 := HY6.out.cap
    have hcap7 := hy8.cap
    have hbig6 := HY6.out.big
    unfold maxLen at hbig6
    have HEQ := hidden ((requal_any p6 (some ⟨g7, 0, none⟩) (y + 4) c6 (y + 4) c7 (oneC nx ⟨43, false, ys⟩) (oneC nx ⟨43, false, ys⟩) _ hfront hy8).mono (R' := fun e w' => e = .returned (.bool true) ∧ ∃ r, w' = (w7.setCell ⟨g7, 0, none⟩ (.int .u8 kk)).drewN r) (fun e w' ⟨h1, h2⟩ => ⟨by rw [h1]; simp, h2⟩))
    have HB8 := hidden (HB6.out.trans (hb8.mono HB6.out.size))
    clear hown hown7 hg hb7 hcell hfr hy8 hb8 hfront HY6 HB6 HBP6
    have hsum : ((y + 4 + nb : Nat) : Int) = ((y + 4 : Nat) : Int) + (nb : Int) := by omega
    rcases Nat.eq_zero_or_pos l.length with h0 | h0
    · have hl0 : ((l.length : Int) == 0) = true := by simp [h0]
      clear h0
      go_wp2_with (go_at_call 20; (with_reducible refine (HEQ.out).mono ?_); rintro e w' ⟨rfl, rr, rfl⟩)
      go_ret
      exact ⟨rfl, HB8.out.trans (drew_below ⟨_, rfl⟩)⟩
    · have hl0 : ((l.length : Int) == 0) = false := beq_eq_false_iff_ne.2 (by omega)
      go_wp2_with (go_at_call 20; (with_reducible refine (HEQ.out).mono ?_); rintro e w' ⟨rfl, rr, rfl⟩)
      go_ret
      exact ⟨by simp, HB8.out.trans (drew_below ⟨_, rfl⟩)⟩
end Go.Proofs.Ytdlcdegfoadajaa
