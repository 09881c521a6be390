/-
  Verify, schnorr's and the document's.
-/
import Derived.Test.YtkniifopfgeopaaDoorHZ6
namespace Go.Proofs.YtkniifopfgeopaaDoor
open Go.RowKit
set_option linter.unusedVariables false

theorem ver_13 {y : Nat} {m sig : List Int} (h : gel y = false) : verE y m sig = 13 := by unfold verE; rw [if_pos h]
theorem ver_2 {y : Nat} {m sig : List Int} (h : gel y = true) (h2 : sig.length ≠ 16) : verE y m sig = 2 := by unfold verE; rw [if_neg (by rw [h]; decide), if_pos h2]
theorem ver_5 {y : Nat} {m sig : List Int} (h : gel y = true) (h2 : sig.length = 16) (h3 : gq ≤ num8 sig ∨ gq ≤ num8 (sig.drop 8)) : verE y m sig = 5 := by unfold verE; rw [if_neg (by rw [h]; decide), if_neg (by omega), if_pos h3]
theorem ver_x {y : Nat} {m sig : List Int} (h : gel y = true) (h2 : sig.length = 16) (h3 : ¬ (gq ≤ num8 sig ∨ gq ≤ num8 (sig.drop 8))) :
    verE y m sig = if num8 sig ≠ chal (gmul (gpow 4 (num8 (sig.drop 8))) (gpow y (gq - num8 sig))) y m then 18 else 0 := by unfold verE; rw [if_neg (by rw [h]; decide), if_neg (by omega), if_neg h3]

set_option maxHeartbeats 1600000 in
set_option maxRecDepth 100000 in
theorem verS_any (y : Nat) (hy : y < 18446744073709551616) (p : Option Addr) (n c : Nat) (m : List Int) (q : Option Addr) (k d : Nat) (sig : List Int) (w : World) (h : Byt w p n c m) (hn : n ≤ 100000) (hs : Byt w q k d sig) (hK : KAt w) :
    Calls Tryd.prog 26 #[.int .u64 y, .slice p n c, .slice q k d] w fun e w' => e = .returned (.int .i64 (verE y m sig)) ∧ Below w.heap.size w w' := by
  have HE := hidden (fun W => gel_any y hy W)
  have hl := hs.len
  cases hg : gel y with
  | false =>
    rw [ver_13 hg]
    rw [hg] at HE
    clear h hs hK hl hg
    go_enter Tryd.func26, Tryd.ntmps26
    go_wp2_with (first
      | (go_at_call 41; (with_reducible refine (HE.out _).mono ?_); rintro en w2 ⟨rfl, hb⟩; have HB := hidden hb; clear hb)
      | fail)
    go_ret
    exact ⟨rfl, HB.out⟩
  | true =>
    rw [hg] at HE
    by_cases hk : k = 16
    rotate_left
    · rw [ver_2 hg (by omega)]
      have HP := hidden (fun W => pairS_len q k d W hk)
      clear h hs hK hl hg hk
      go_enter Tryd.func26, Tryd.ntmps26
      go_wp2_with (first
        | (go_at_call 41; (with_reducible refine (HE.out _).mono ?_); rintro en w2 ⟨rfl, hb⟩; have HB := hidden hb; clear hb)
        | (go_at_call 55; (with_reducible refine (HP.out _).mono ?_); rintro en w3 ⟨rfl, hb⟩; have HB3 := hidden (HB.out.trans (hb.mono HB.out.size)); have HW := hidden (Wn.new .u64 w3 81 [0, 0] _ rfl); clear hb)
        | (refine wpList_store_row rfl 81 _ _ rfl w3.heap.size (ints .u64 [0, 0]) rfl rfl 81 _ HW.out.heap (infoP _ rfl) rfl (onek .u64 _) ?_)
        | fail)
      go_ret
      exact ⟨rfl, below_setRow (HB3.out.alloc HB3.out.size _) HB3.out.size _⟩
    · subst hk
      have HP := hidden (fun W (hW : Below w.heap.size w W) => pairS_any q d sig W (hs.below hW))
      by_cases hbig : gq ≤ num8 sig ∨ gq ≤ num8 (sig.drop 8)
      · rw [ver_5 hg hl hbig]
        have hi : (2305843009213688669 : Int) ≤ ((num8 sig : Nat) : Int) ∨ (2305843009213688669 : Int) ≤ ((num8 (sig.drop 8) : Nat) : Int) := by unfold gq at hbig; omega
        have HP2 := hidden (fun W (hW : Below w.heap.size w W) => (HP.out W hW).mono (fun e w' hr => by unfold PairRes at hr; rw [if_pos hi] at hr; exact hr : ∀ e w', PairRes ((num8 sig : Nat) : Int) ((num8 (sig.drop 8) : Nat) : Int) W e w' → PairIs 0 0 5 W e w'))
        clear h hs hK hl hg hbig hi HP
        go_enter Tryd.func26, Tryd.ntmps26
        go_wp2_with (first
          | (go_at_call 41; (with_reducible refine (HE.out _).mono ?_); rintro en w2 ⟨rfl, hb⟩; have HB := hidden hb; clear hb)
          | (go_at_call 55; (with_reducible refine (HP2.out _ HB.out).mono ?_); rintro en w3 ⟨rfl, hb⟩; have HB3 := hidden (HB.out.trans (hb.mono HB.out.size)); have HW := hidden (Wn.new .u64 w3 81 [0, 0] _ rfl); clear hb)
          | (refine wpList_store_row rfl 81 _ _ rfl w3.heap.size (ints .u64 [0, 0]) rfl rfl 81 _ HW.out.heap (infoP _ rfl) rfl (onek .u64 _) ?_)
          | fail)
        go_ret
        exact ⟨rfl, below_setRow (HB3.out.alloc HB3.out.size _) HB3.out.size _⟩
      · rw [ver_x hg hl hbig]
        have hi : ¬ ((2305843009213688669 : Int) ≤ ((num8 sig : Nat) : Int) ∨ (2305843009213688669 : Int) ≤ ((num8 (sig.drop 8) : Nat) : Int)) := by unfold gq at hbig; omega
        have HP2 := hidden (fun W (hW : Below w.heap.size w W) => (HP.out W hW).mono (fun e w' hr => by unfold PairRes at hr; rw [if_neg hi] at hr; exact hr : ∀ e w', PairRes ((num8 sig : Nat) : Int) ((num8 (sig.drop 8) : Nat) : Int) W e w' → PairIs ((num8 sig : Nat) : Int) ((num8 (sig.drop 8) : Nat) : Int) 0 W e w'))
        have HK := hidden (fun W (hW : Below w.heap.size w W) => hK.below hW hK.lt)
        have HM := hidden (fun W (hW : Below w.heap.size w W) => h.below hW)
        have hgp := gp_big
        have hgq := gq_big
        have hr1 := gmul_lt (gpow 4 (num8 (sig.drop 8))) (gpow y (gq - num8 sig))
        have hp1 := gpow_lt 4 (num8 (sig.drop 8))
        have hp2 := gpow_lt y (gq - num8 sig)
        have HPW1 := hidden (fun W => gpow_any 4 (num8 (sig.drop 8)) (by decide) (by omega) W)
        have HPW2 := hidden (fun W => gpow_any y (gq - num8 sig) hy (by omega) W)
        have hsub : ((gq - num8 sig : Nat) : Int) = 2305843009213688669 - ((num8 sig : Nat) : Int) := by have h9 : gq = 2305843009213688669 := rfl; omega
        rw [cast4] at HPW1
        rw [hsub] at HPW2
        have HMU := hidden (fun W => gmul_any (gpow 4 (num8 (sig.drop 8))) (gpow y (gq - num8 sig)) (by omega) (by omega) W)
        have HCH := hidden (fun W (hb : Below w.heap.size w W) => chalS_any (gmul (gpow 4 (num8 (sig.drop 8))) (gpow y (gq - num8 sig))) y (by omega) hy p n c m W (HM.out W hb) hn (HK.out W hb))
        generalize gmul (gpow 4 (num8 (sig.drop 8))) (gpow y (gq - num8 sig)) = r at *
        generalize gpow 4 (num8 (sig.drop 8)) = r1 at *
        generalize gpow y (gq - num8 sig) = r2 at *
        generalize chal r y m = E at *
        have hE : (if num8 sig ≠ E then (18 : Int) else 0) = if ((num8 sig : Nat) : Int) = ((E : Nat) : Int) then 0 else 18 := by
          by_cases h9 : num8 sig = E
          · rw [if_neg (by omega), if_pos (by omega)]
          · rw [if_pos h9, if_neg (by omega)]
        rw [hE]
        have ha0 : (0 : Int) ≤ ((num8 sig : Nat) : Int) := by omega
        have ha1 : ((num8 sig : Nat) : Int) < 2305843009213688669 := by omega
        generalize ((num8 sig : Nat) : Int) = a at *
        generalize ((num8 (sig.drop 8) : Nat) : Int) = b at *
        generalize ((E : Nat) : Int) = E2 at *
        have HA0 := hidden ha0
        have HA1 := hidden ha1
        clear h hs hK hl hg hbig hi HP hgp hgq hr1 hp1 hp2 hsub hE ha0 ha1
        by_cases hab : a = E2
        · rw [if_pos hab]
          have hne : (a != E2) = false := by rw [hab]; simp
          have HNE := Is.mk hne
          clear hab hne
          go_enter Tryd.func26, Tryd.ntmps26
          go_upto_region 6 with (first
            | (go_at_call 41; (with_reducible refine (HE.out _).mono ?_); rintro en w2 ⟨rfl, hb⟩; have HB := hidden hb; clear hb)
            | (go_at_call 55; (with_reducible refine (HP2.out _ HB.out).mono ?_); rintro en w3 ⟨rfl, hb⟩; have HB3 := hidden (HB.out.trans (hb.mono HB.out.size)); have HW := hidden (Wn.new .u64 w3 81 [0, 0] _ rfl); clear hb)
            | (refine wpList_store_row rfl 81 _ _ rfl w3.heap.size (ints .u64 [a, b]) rfl rfl 81 _ HW.out.heap (infoP _ rfl) rfl (onek .u64 _) ?_)
            | fail)
          generalize hw4 : World.setRow _ w3.heap.size _ = w4
          have hw : Wn .u64 w4 w3.heap.size 81 [a, b] := by rw [← hw4]; exact HW.out.row [a, b]
          have HB4 : Hid (Below w.heap.size w w4) := by rw [← hw4]; exact hidden (below_setRow (HB3.out.alloc HB3.out.size _) HB3.out.size _)
          clear hw4 HW
          generalize w3.heap.size = g at *
          have hd0 : w4.cell? ⟨g, 0, none⟩ = some (.int .u64 a) := hw.cell 0 (show 0 < 2 by decide)
          have hd1 : w4.cell? ⟨g, 1, none⟩ = some (.int .u64 b) := hw.cell 1 (show 1 < 2 by decide)
          clear hw
          go_quiet (fail)
          clear hd0 hd1
          generalize hw5 : w4.drewN nq = w5
          have HB5 : Hid (Below w.heap.size w w5) := by rw [← hw5]; exact hidden (HB4.out.trans (drew_below ⟨_, rfl⟩))
          clear hw5
          have ha0 := HA0.out
          have ha1 := HA1.out
          go_upto_region 8 with (first
            | (go_at_call 52; (with_reducible refine (HPW1.out _).mono ?_); rintro en w6 ⟨rfl, hb⟩; have HB6 := hidden (HB5.out.trans (hb.mono HB5.out.size)); clear hb HPW1)
            | (go_at_call 52; (with_reducible refine (HPW2.out _).mono ?_); rintro en w7 ⟨rfl, hb⟩; have HB7 := hidden (HB6.out.trans (hb.mono HB6.out.size)); clear hb HPW2)
            | (go_at_call 56; (with_reducible refine (HMU.out _).mono ?_); rintro en w8 ⟨rfl, hb⟩; have HB8 := hidden (HB7.out.trans (hb.mono HB7.out.size)); have HCX := hidden (HCH.out w8 HB8.out); clear hb)
            | fail)
          clear ha0 ha1
          have hne := HNE.eq
          go_wp2_with (first
            | (go_at_call 51; (with_reducible refine (HCX.out).mono ?_); rintro en w9 ⟨rfl, hb⟩; have HB9 := hidden (HB8.out.trans (hb.mono HB8.out.size)); clear hb)
            | fail)
          go_ret
          exact ⟨rfl, HB9.out⟩
        · rw [if_neg hab]
          have hne : (a != E2) = true := by simpa using hab
          have HNE := Is.mk hne
          clear hab hne
          go_enter Tryd.func26, Tryd.ntmps26
          go_upto_region 6 with (first
            | (go_at_call 41; (with_reducible refine (HE.out _).mono ?_); rintro en w2 ⟨rfl, hb⟩; have HB := hidden hb; clear hb)
            | (go_at_call 55; (with_reducible refine (HP2.out _ HB.out).mono ?_); rintro en w3 ⟨rfl, hb⟩; have HB3 := hidden (HB.out.trans (hb.mono HB.out.size)); have HW := hidden (Wn.new .u64 w3 81 [0, 0] _ rfl); clear hb)
            | (refine wpList_store_row rfl 81 _ _ rfl w3.heap.size (ints .u64 [a, b]) rfl rfl 81 _ HW.out.heap (infoP _ rfl) rfl (onek .u64 _) ?_)
            | fail)
          generalize hw4 : World.setRow _ w3.heap.size _ = w4
          have hw : Wn .u64 w4 w3.heap.size 81 [a, b] := by rw [← hw4]; exact HW.out.row [a, b]
          have HB4 : Hid (Below w.heap.size w w4) := by rw [← hw4]; exact hidden (below_setRow (HB3.out.alloc HB3.out.size _) HB3.out.size _)
          clear hw4 HW
          generalize w3.heap.size = g at *
          have hd0 : w4.cell? ⟨g, 0, none⟩ = some (.int .u64 a) := hw.cell 0 (show 0 < 2 by decide)
          have hd1 : w4.cell? ⟨g, 1, none⟩ = some (.int .u64 b) := hw.cell 1 (show 1 < 2 by decide)
          clear hw
          go_quiet (fail)
          clear hd0 hd1
          generalize hw5 : w4.drewN nq = w5
          have HB5 : Hid (Below w.heap.size w w5) := by rw [← hw5]; exact hidden (HB4.out.trans (drew_below ⟨_, rfl⟩))
          clear hw5
          have ha0 := HA0.out
          have ha1 := HA1.out
          go_upto_region 8 with (first
            | (go_at_call 52; (with_reducible refine (HPW1.out _).mono ?_); rintro en w6 ⟨rfl, hb⟩; have HB6 := hidden (HB5.out.trans (hb.mono HB5.out.size)); clear hb HPW1)
            | (go_at_call 52; (with_reducible refine (HPW2.out _).mono ?_); rintro en w7 ⟨rfl, hb⟩; have HB7 := hidden (HB6.out.trans (hb.mono HB6.out.size)); clear hb HPW2)
            | (go_at_call 56; (with_reducible refine (HMU.out _).mono ?_); rintro en w8 ⟨rfl, hb⟩; have HB8 := hidden (HB7.out.trans (hb.mono HB7.out.size)); have HCX := hidden (HCH.out w8 HB8.out); clear hb)
            | fail)
          clear ha0 ha1
          have hne := HNE.eq
          go_wp2_with (first
            | (go_at_call 51; (with_reducible refine (HCX.out).mono ?_); rintro en w9 ⟨rfl, hb⟩; have HB9 := hidden (HB8.out.trans (hb.mono HB8.out.size)); clear hb)
            | fail)
          go_ret
          exact ⟨rfl, HB9.out⟩
set_option maxHeartbeats 1600000 in
set_option maxRecDepth 100000 in
theorem rverS_any (y : Nat) (hy : y < 18446744073709551616) (p : Option Addr) (n c : Nat) (m : List Int) (q : Option Addr) (k d : Nat) (sig : List Int) (w : World) (h : Byt w p n c m) (hn : n ≤ 100000) (hs : Byt w q k d sig) :
    Calls Tryd.prog 34 #[.int .u64 y, .slice p n c, .slice q k d] w fun e w' => e = .returned (.int .i64 (verE y m sig)) ∧ Below w.heap.size w w' := by
  have HE := hidden (fun W => rgel_any y hy W)
  have hl := hs.len
  cases hg : gel y with
  | false =>
    rw [ver_13 hg]
    rw [hg] at HE
    clear h hs hl hg
    go_enter Tryd.func34, Tryd.ntmps34
    go_wp2_with (first
      | (go_at_call 44; (with_reducible refine (HE.out _).mono ?_); rintro en w2 ⟨rfl, hb⟩; have HB := hidden hb; clear hb)
      | fail)
    go_ret
    exact ⟨rfl, HB.out⟩
  | true =>
    rw [hg] at HE
    by_cases hk : k = 16
    rotate_left
    · rw [ver_2 hg (by omega)]
      have hk1 : ((k : Int) != 16) = true := by simp; omega
      clear h hs hl hg hk
      go_enter Tryd.func34, Tryd.ntmps34
      go_wp2_with (first
        | (go_at_call 44; (with_reducible refine (HE.out _).mono ?_); rintro en w2 ⟨rfl, hb⟩; have HB := hidden hb; clear hb)
        | fail)
      go_ret
      exact ⟨rfl, HB.out⟩
    · subst hk
      have hcap := hs.cap
      have hmx := hs.big
      unfold maxLen at hmx
      obtain ⟨b, o, rfl, -⟩ := hs.at_ (by omega)
      have eP : Option.map (fun x : Addr => x.add 8) (some ⟨b, o, none⟩) = some ⟨b, o + 8, none⟩ := by simp [Addr.add]
      have HS8 : Hid (∀ W, Below w.heap.size w W → Byt W (some ⟨b, o + 8, none⟩) 8 (d - 8) (sig.drop 8)) := by
        intro W hW
        have h8 := (hs.below hW).part 8 16 (by omega) (by omega)
        rw [if_neg (by omega), eP, show 16 - 8 = 8 from rfl, List.take_of_length_le (by omega)] at h8
        exact h8
      have HN1 := hidden (fun W (hW : Below w.heap.size w W) => firstS_any (some ⟨b, o, none⟩) 16 d sig W (hs.below hW) (by omega))
      have HN2 := hidden (fun W (hW : Below w.heap.size w W) => firstS_any (some ⟨b, o + 8, none⟩) 8 (d - 8) (sig.drop 8) W (HS8.out W hW) (by omega))
      have hd8 : (8 : Int) ≤ (d : Int) := by omega
      by_cases hbig : gq ≤ num8 sig ∨ gq ≤ num8 (sig.drop 8)
      · rw [ver_5 hg hl hbig]
        by_cases hb1 : gq ≤ num8 sig
        · have hi : (2305843009213688669 : Int) ≤ ((num8 sig : Nat) : Int) := by unfold gq at hb1; omega
          generalize ((num8 sig : Nat) : Int) = a at *
          generalize ((num8 (sig.drop 8) : Nat) : Int) = e at *
          clear h hs hl hg hbig hb1 eP HS8
          go_enter Tryd.func34, Tryd.ntmps34
          go_wp2_with (first
            | (go_at_call 44; (with_reducible refine (HE.out _).mono ?_); rintro en w2 ⟨rfl, hb⟩; have HB := hidden hb; have HX1 := hidden (HN1.out w2 hb); have HX2 := hidden (HN2.out w2 hb); clear hb)
            | (go_at_call 60; (with_reducible refine (HX1.out).mono ?_); rintro en w3 ⟨rfl, rfl⟩; clear HX1)
            | (go_at_call 60; (with_reducible refine (HX2.out).mono ?_); rintro en w3 ⟨rfl, rfl⟩)
            | fail)
          go_ret
          exact ⟨rfl, HB.out⟩
        · have hi : ((num8 sig : Nat) : Int) < 2305843009213688669 := by unfold gq at hb1; omega
          have hi2 : (2305843009213688669 : Int) ≤ ((num8 (sig.drop 8) : Nat) : Int) := by unfold gq at hb1 hbig; omega
          generalize ((num8 sig : Nat) : Int) = a at *
          generalize ((num8 (sig.drop 8) : Nat) : Int) = e at *
          clear h hs hl hg hbig hb1 eP HS8
          go_enter Tryd.func34, Tryd.ntmps34
          go_wp2_with (first
            | (go_at_call 44; (with_reducible refine (HE.out _).mono ?_); rintro en w2 ⟨rfl, hb⟩; have HB := hidden hb; have HX1 := hidden (HN1.out w2 hb); have HX2 := hidden (HN2.out w2 hb); clear hb)
            | (go_at_call 60; (with_reducible refine (HX1.out).mono ?_); rintro en w3 ⟨rfl, rfl⟩; clear HX1)
            | (go_at_call 60; (with_reducible refine (HX2.out).mono ?_); rintro en w3 ⟨rfl, rfl⟩)
            | fail)
          go_ret
          exact ⟨rfl, HB.out⟩
      · rw [ver_x hg hl hbig]
        have HM := hidden (fun W (hW : Below w.heap.size w W) => h.below hW)
        have hgp := gp_big
        have hgq := gq_big
        have hr1 := gmul_lt (gpow 4 (num8 (sig.drop 8))) (gpow y (gq - num8 sig))
        have hp1 := gpow_lt 4 (num8 (sig.drop 8))
        have hp2 := gpow_lt y (gq - num8 sig)
        have HPW1 := hidden (fun W => rgpow_any 4 (num8 (sig.drop 8)) (by decide) (by omega) W)
        have HPW2 := hidden (fun W => rgpow_any y (gq - num8 sig) hy (by omega) W)
        have hsub : ((gq - num8 sig : Nat) : Int) = 2305843009213688669 - ((num8 sig : Nat) : Int) := by have h9 : gq = 2305843009213688669 := rfl; omega
        rw [cast4] at HPW1
        rw [hsub] at HPW2
        have HMU := hidden (fun W => rgmul_any (gpow 4 (num8 (sig.drop 8))) (gpow y (gq - num8 sig)) (by omega) (by omega) W)
        have HCH := hidden (fun W (hb : Below w.heap.size w W) => rchalS_any (gmul (gpow 4 (num8 (sig.drop 8))) (gpow y (gq - num8 sig))) y (by omega) hy p n c m W (HM.out W hb) hn)
        have hi1 : ((num8 sig : Nat) : Int) < 2305843009213688669 := by unfold gq at hbig; omega
        have hi2 : ((num8 (sig.drop 8) : Nat) : Int) < 2305843009213688669 := by unfold gq at hbig; omega
        generalize gmul (gpow 4 (num8 (sig.drop 8))) (gpow y (gq - num8 sig)) = r at *
        generalize gpow 4 (num8 (sig.drop 8)) = r1 at *
        generalize gpow y (gq - num8 sig) = r2 at *
        generalize chal r y m = E at *
        have hE : (if num8 sig ≠ E then (18 : Int) else 0) = if ((E : Nat) : Int) = ((num8 sig : Nat) : Int) then 0 else 18 := by
          by_cases h9 : num8 sig = E
          · rw [if_neg (by omega), if_pos (by omega)]
          · rw [if_pos h9, if_neg (by omega)]
        rw [hE]
        have ha0 : (0 : Int) ≤ ((num8 sig : Nat) : Int) := by omega
        generalize ((num8 sig : Nat) : Int) = a at *
        generalize ((num8 (sig.drop 8) : Nat) : Int) = e at *
        generalize ((E : Nat) : Int) = E2 at *
        clear h hs hl hg hbig hgp hgq hr1 hp1 hp2 hsub hE eP HS8
        by_cases hab : E2 = a
        · rw [if_pos hab]
          have hne : (E2 != a) = false := by rw [hab]; simp
          have HNE := Is.mk hne
          clear hab hne
          go_enter Tryd.func34, Tryd.ntmps34
          go_upto_region 10 with (first
            | (go_at_call 44; (with_reducible refine (HE.out _).mono ?_); rintro en w2 ⟨rfl, hb⟩; have HB := hidden hb; have HX1 := hidden (HN1.out w2 hb); have HX2 := hidden (HN2.out w2 hb); clear hb)
            | (go_at_call 60; (with_reducible refine (HX1.out).mono ?_); rintro en w3 ⟨rfl, rfl⟩; clear HX1)
            | (go_at_call 60; (with_reducible refine (HX2.out).mono ?_); rintro en w3 ⟨rfl, rfl⟩)
            | (go_at_call 31; (with_reducible refine (HPW1.out _).mono ?_); rintro en w6 ⟨rfl, hb⟩; have HB6 := hidden (HB.out.trans (hb.mono HB.out.size)); clear hb HPW1)
            | (go_at_call 31; (with_reducible refine (HPW2.out _).mono ?_); rintro en w7 ⟨rfl, hb⟩; have HB7 := hidden (HB6.out.trans (hb.mono HB6.out.size)); clear hb HPW2)
            | (go_at_call 58; (with_reducible refine (HMU.out _).mono ?_); rintro en w8 ⟨rfl, hb⟩; have HB8 := hidden (HB7.out.trans (hb.mono HB7.out.size)); have HCX := hidden (HCH.out w8 HB8.out); clear hb)
            | fail)
          clear ha0 hi1 hi2
          have hne := HNE.eq
          go_wp2_with (first
            | (go_at_call 61; (with_reducible refine (HCX.out).mono ?_); rintro en w9 ⟨rfl, hb⟩; have HB9 := hidden (HB8.out.trans (hb.mono HB8.out.size)); clear hb)
            | fail)
          go_ret
          exact ⟨rfl, HB9.out⟩
        · rw [if_neg hab]
          have hne : (E2 != a) = true := by simpa using hab
          have HNE := Is.mk hne
          clear hab hne
          go_enter Tryd.func34, Tryd.ntmps34
          go_upto_region 10 with (first
            | (go_at_call 44; (with_reducible refine (HE.out _).mono ?_); rintro en w2 ⟨rfl, hb⟩; have HB := hidden hb; have HX1 := hidden (HN1.out w2 hb); have HX2 := hidden (HN2.out w2 hb); clear hb)
            | (go_at_call 60; (with_reducible refine (HX1.out).mono ?_); rintro en w3 ⟨rfl, rfl⟩; clear HX1)
            | (go_at_call 60; (with_reducible refine (HX2.out).mono ?_); rintro en w3 ⟨rfl, rfl⟩)
            | (go_at_call 31; (with_reducible refine (HPW1.out _).mono ?_); rintro en w6 ⟨rfl, hb⟩; have HB6 := hidden (HB.out.trans (hb.mono HB.out.size)); clear hb HPW1)
            | (go_at_call 31; (with_reducible refine (HPW2.out _).mono ?_); rintro en w7 ⟨rfl, hb⟩; have HB7 := hidden (HB6.out.trans (hb.mono HB6.out.size)); clear hb HPW2)
            | (go_at_call 58; (with_reducible refine (HMU.out _).mono ?_); rintro en w8 ⟨rfl, hb⟩; have HB8 := hidden (HB7.out.trans (hb.mono HB7.out.size)); have HCX := hidden (HCH.out w8 HB8.out); clear hb)
            | fail)
          clear ha0 hi1 hi2
          have hne := HNE.eq
          go_wp2_with (first
            | (go_at_call 61; (with_reducible refine (HCX.out).mono ?_); rintro en w9 ⟨rfl, hb⟩; have HB9 := hidden (HB8.out.trans (hb.mono HB8.out.size)); clear hb)
            | fail)
          go_ret
          exact ⟨rfl, HB9.out⟩
end Go.Proofs.YtkniifopfgeopaaDoor
