/-
  The document's sealing and opening.
-/
import Derived.Test.YtpocehpejbnemaaDoorQRAeadTag
namespace Go.Proofs.YtpocehpejbnemaaDoor
open Go.RowKit
set_option linter.unusedVariables false

theorem rtag_no (p q r s : Option Addr) (k c l d n e m f : Nat) (w : World) (hn : k ≤ 9223372036854775807) (hm : l ≤ 9223372036854775807) (h : ¬ (k = 32 ∧ l = 12)) :
    Calls Tryd.prog 20 #[.slice p k c, .slice q l d, .slice r n e, .slice s m f] w fun en w' => en = .returned (.tuple #[.slice none 0 0, .bool false]) ∧ w = w' := by
  have HC := hidden (rblock_no p q k c l d 0 w hn hm h)
  clear h
  go_enter Tryd.func20, Tryd.ntmps20
  go_wp2_with (first
    | (go_at_call 37; (with_reducible refine (HC.out).mono ?_); rintro en w1 ⟨rfl, rfl⟩)
    | fail)
  go_ret2
  exact ⟨rfl, rfl⟩

set_option maxHeartbeats 1600000 in
set_option maxRecDepth 100000 in
theorem rseal_yes (p q r s : Option Addr) (c d n e m f : Nat) (key nonce data plain : List Int) (w : World) (h : Byt w p 32 c key) (h' : Byt w q 12 d nonce) (hr : Byt w r n e data) (hs : Byt w s m f plain) (hn : n ≤ 20000) (hm : m ≤ 20000) :
    Calls Tryd.prog 18 #[.slice p 32 c, .slice q 12 d, .slice r n e, .slice s m f] w fun en w' => ∃ v, en = .returned (.tuple #[v, .int .i64 0]) ∧ Own w' w.heap.size 5 v (sealA key nonce data plain) ∧ Below w.heap.size w w' := by
  obtain ⟨i0, hi, hz0, hz1, hz2⟩ := info_parts Tryd.infoByte
  have HX := hidden (rxor_yes p q s c d m f key nonce plain 1 w h h' hs (by omega) (by omega) (by omega))
  obtain ⟨X, hX⟩ : ∃ X, xorC key 1 nonce plain = X := ⟨_, rfl⟩
  have hXl : X.length = m := by rw [← hX, xorC_len, hs.len]
  have hXr : ∀ x ∈ X, 0 ≤ x ∧ x ≤ 255 := by rw [← hX]; exact xorC_rng _ _ _ _
  have HS : Is (sealA key nonce data plain) (X ++ tagA key nonce data X) := ⟨by rw [← hX]; rfl⟩
  have HT := hidden (fun W (hW : Below w.heap.size w W) px cx (hx : Byt W px m cx X) => rtag_yes p q r px c d n e m cx key nonce data X W (h.below hW) (h'.below hW) (hr.below hW) hx (by omega) (by omega))
  have HTL := hidden (tagA_len key nonce data X)
  have HTR := hidden (tagA_rng key nonce data X)
  rw [hX] at HX
  generalize tagA key nonce data X = T at *
  generalize sealA key nonce data plain = R at *
  have HXL := Is.mk hXl
  have HXR := hidden hXr
  clear h h' hr hs hX hXl hXr
  go_enter Tryd.func18, Tryd.ntmps18
  go_wp2_with (first
    | (go_at_call 34; (with_reducible refine (HX.out).mono ?_); rintro en w1 ⟨v1, rfl, ho, hb⟩; have ho' := ho; obtain ⟨p1, c1, rfl, hy1⟩ := ho.bytN (N := m) rfl HXL.eq HXR.out; have HB1 := hidden hb; have HO1 := hidden (fun W (hW : Below w1.heap.size w1 W) => ho'.below hW); have HT1 := hidden (HT.out w1 hb p1 c1 hy1); clear ho ho' hb hy1)
    | (go_at_call 20; (with_reducible refine (HT1.out).mono ?_); rintro en w2 ⟨v2, rfl, ho, hb⟩; obtain ⟨p2, c2, rfl, hy2⟩ := ho.bytN (N := 16) rfl HTL.out HTR.out; have HB2 := hidden (HB1.out.trans (hb.mono HB1.out.size)); have HO2 := hidden (HO1.out w2 hb); have HY2 := hidden hy2; clear ho hb hy2)
    | (at_builtin; refine wpList_append_byt _ rfl _ _ 22 rfl w.heap.size 5 i0 (.int .u8 0) Tryd.underlying22 hi hz0 hz1 hz2 rfl _ _ rfl HO2.out _ _ _ _ _ rfl HY2.out rfl ?c2 ?c3 ?_)
    | fail)
  case c2 => rw [HXL.eq]; omega
  case c3 => exact HB2.out.size
  intro u3 w3 hown3 hg3
  have HB3 := hidden (HB2.out.grown hg3 HB2.out.size (fun k hk => (HO2.out.lt k hk).1))
  rw [← HS.eq] at hown3
  have HO3 := hidden hown3
  clear hown3 hg3
  go_wp2
  go_ret2
  exact ⟨_, rfl, HO3.out, HB3.out⟩

theorem rseal_no (p q r s : Option Addr) (k c l d n e m f : Nat) (w : World) (hn : k ≤ 9223372036854775807) (hm : l ≤ 9223372036854775807) (h : ¬ (k = 32 ∧ l = 12)) :
    Calls Tryd.prog 18 #[.slice p k c, .slice q l d, .slice r n e, .slice s m f] w fun en w' => en = .returned (.tuple #[.slice none 0 0, .int .i64 13]) ∧ w = w' := by
  have HC := hidden (rxor_no p q k c l d 1 s m f w hn hm h)
  clear h
  go_enter Tryd.func18, Tryd.ntmps18
  go_wp2_with (first
    | (go_at_call 34; (with_reducible refine (HC.out).mono ?_); rintro en w1 ⟨rfl, rfl⟩)
    | fail)
  go_ret2
  exact ⟨rfl, rfl⟩

set_option maxHeartbeats 1600000 in
set_option maxRecDepth 100000 in
theorem ropen_yes (p q r s : Option Addr) (c d n e m f : Nat) (key nonce data xs : List Int) (w : World) (h : Byt w p 32 c key) (h' : Byt w q 12 d nonce) (hr : Byt w r n e data) (hs : Byt w s m f xs) (hn : n ≤ 20000) (hm : m ≤ 20000) :
    Calls Tryd.prog 23 #[.slice p 32 c, .slice q 12 d, .slice r n e, .slice s m f] w fun en w' => ∃ v, en = .returned (.tuple #[v, .int .i64 (openE key nonce data xs)]) ∧ Own w' w.heap.size 5 v (openL key nonce data xs) ∧ Below w.heap.size w w' := by
  have hlen := hs.len
  have hcap := hs.cap
  by_cases hsh : m < 16
  · have hE : openE key nonce data xs = 1 := by unfold openE; rw [if_pos (by omega)]
    have hO : openL key nonce data xs = [] := by unfold openL; rw [hE]; rfl
    rw [hE, hO]
    have hlt : (m : Int) < 16 := by omega
    clear h h' hr hs hE hO
    go_enter Tryd.func23, Tryd.ntmps23
    go_wp2_with fail
    go_ret2
    exact ⟨_, rfl, Own.nil _ _ _, Below.refl _ _⟩
  · obtain ⟨N, rfl⟩ : ∃ N, m = N + 16 := ⟨m - 16, by omega⟩
    have hfr := hs.front N (by omega)
    have hpt := hs.part N (N + 16) (by omega) (Nat.le_refl _)
    rw [List.take_of_length_le (by omega), show N + 16 - N = 16 by omega] at hpt
    have hle : openE key nonce data xs = if tagA key nonce data (xs.take N) = xs.drop N then 0 else 12 := by
      unfold openE
      rw [if_neg (by omega), show xs.length - 16 = N by omega]
    have hll : openL key nonce data xs = if openE key nonce data xs = 0 then xorC key 1 nonce (xs.take N) else [] := by
      unfold openL
      rw [show xs.length - 16 = N by omega]
    have HT := hidden (rtag_yes p q r s c d n e N f key nonce data (xs.take N) w h h' hr hfr (by omega) (by omega))
    have HTL := hidden (tagA_len key nonce data (xs.take N))
    have HTR := hidden (tagA_rng key nonce data (xs.take N))
    have HX := hidden (fun W (hW : Below w.heap.size w W) => rxor_yes p q s c d N f key nonce (xs.take N) 1 W (h.below hW) (h'.below hW) (hfr.below hW) (by omega) (by omega) (by omega))
    rw [if_neg (by omega)] at hpt
    have HP := hidden (fun W (hW : Below w.heap.size w W) => hpt.below hW)
    generalize xorC key 1 nonce (xs.take N) = X at *
    generalize tagA key nonce data (xs.take N) = T at *
    generalize openE key nonce data xs = E at *
    generalize openL key nonce data xs = L at *
    generalize xs.drop N = D at *
    have hN2 : (N : Int) ≤ ((N + 16 : Nat) : Int) := by omega
    have hN3 : (N : Int) ≤ (f : Int) := by omega
    have hN4 : (0 : Int) ≤ (N : Int) := by omega
    have hge : ¬ ((N + 16 : Nat) : Int) < 16 := by omega
    have hN5 : (N : Int) + 16 - (N : Int) = 16 := by omega
    have hN7 : (N : Int) + 16 - 16 = (N : Int) := by omega
    have hN6 : (N : Int) ≤ (N : Int) + 16 := by omega
    have hd : decide ((N : Int) + 16 < 16) = false := by simp; omega
    have hsl : N + 16 - N = 16 := by omega
    clear h h' hr hs hfr hpt hsh hlen
    go_enter Tryd.func23, Tryd.ntmps23
    go_upto_region 7 with (first
      | (go_at_call 20; (with_reducible refine (HT.out).mono ?_); rintro en w1 ⟨v1, rfl, ho, hb⟩; obtain ⟨p1, c1, rfl, hy1⟩ := ho.bytN (N := 16) rfl HTL.out HTR.out; have HB1 := hidden hb; have HSM := hidden (requal_any p1 (Option.map (fun x => x.add N) s) 16 c1 16 (f - N) T D w1 hy1 (HP.out w1 hb)); clear ho hb hy1)
      | fail)
    by_cases hTD : T = D
    · have hdt : decide (T = D) = true := by simp [hTD]
      rw [if_pos hTD] at hle
      rw [hle, if_pos rfl] at hll
      rw [hdt] at HSM
      subst hle hll
      clear hTD hdt
      go_wp2_with (first
        | (go_at_call 21; (with_reducible refine (HSM.out).mono ?_); rintro en w2 ⟨rfl, rr, rfl⟩; have HBr := hidden (HB1.out.trans ((drew_below ⟨rr, rfl⟩ : Below w1.heap.size w1 (w1.drewN rr)).mono HB1.out.size)); have HX1 := hidden (HX.out _ HBr.out))
        | (go_at_call 34; (with_reducible refine (HX1.out).mono ?_); rintro en w2 ⟨v2, rfl, ho, hb⟩; have HO := hidden (ho.mono HBr.out.size); have HB2 := hidden (HBr.out.trans (hb.mono HBr.out.size)); clear ho hb)
        | fail)
      go_ret2
      exact ⟨_, rfl, HO.out, HB2.out⟩
    · have hdt : decide (T = D) = false := by simp [hTD]
      rw [if_neg hTD] at hle
      rw [hle, if_neg (by decide)] at hll
      rw [hdt] at HSM
      subst hle hll
      clear hTD hdt
      go_wp2_with (first
        | (go_at_call 21; (with_reducible refine (HSM.out).mono ?_); rintro en w2 ⟨rfl, rr, rfl⟩; have HBr := hidden (HB1.out.trans ((drew_below ⟨rr, rfl⟩ : Below w1.heap.size w1 (w1.drewN rr)).mono HB1.out.size)))
        | fail)
      go_ret2
      exact ⟨_, rfl, Own.nil _ _ _, HBr.out⟩
end Go.Proofs.YtpocehpejbnemaaDoor
