/-
  The document's tag, sealing and opening.
-/
import Derived.Test.YtpocehpejbnemaaDoorQAeadSeal
import Derived.Test.YtpocehpejbnemaaDoorQRChaXor
import Derived.Test.YtpocehpejbnemaaDoorQRPolySum
import Derived.Test.YtpocehpejbnemaaDoorQRCompare
namespace Go.Proofs.YtpocehpejbnemaaDoor
open Go.RowKit
set_option linter.unusedVariables false

/-- A list filled with bytes 0. -/
def padA (l : List Int) : List Int := l ++ List.replicate (fillA l.length) 0
theorem padA_len (l : List Int) : (padA l).length = l.length + fillA l.length := by simp [padA]
theorem padA_rng (l : List Int) (h : ∀ x ∈ l, 0 ≤ x ∧ x ≤ 255) : ∀ x ∈ padA l, 0 ≤ x ∧ x ≤ 255 :=
  rng_append h (fun x hx => by rw [List.eq_of_mem_replicate hx]; omega)

/-- The length of a slice. -/
def lenV : Value → Nat
  | .slice _ k _ => k
  | _ => 0
set_option maxHeartbeats 1600000 in
set_option maxRecDepth 100000 in
theorem rpad_any (p : Option Addr) (n c : Nat) (xs : List Int) (w : World) (h : Byt w p n c xs) (hn : n ≤ 1000000) :
    Calls Tryd.prog 38 #[.slice p n c] w fun e w' => ∃ v, e = .returned v ∧ Own w' w.heap.size 5 v (padA xs) ∧ Below w.heap.size w w' := by
  obtain ⟨i0, hi, hz0, hz1, hz2⟩ := info_parts Tryd.infoByte
  have hl := h.len
  have hF := fillA_lt n
  have hFm := fillA_mod n
  have HE : Is (padA xs) (xs ++ List.replicate (fillA n) 0) := ⟨by rw [padA, hl]⟩
  have HH := hidden h
  have H0 : Hid (xs ++ List.replicate 0 0 = xs) := by show _ = _; simp
  have HR : Hid (∀ j, xs ++ List.replicate (j + 1) 0 = (xs ++ List.replicate j 0) ++ [0]) := fun j => by rw [List.append_assoc, ← List.replicate_succ']
  have HL : Hid (∀ j, (xs ++ List.replicate j 0).length = n + j) := fun j => by simp [hl]
  have hmin : Hid (∀ j, j < fillA n → (n + j) % 16 ≠ 0) := fun j hj => by unfold fillA at hj; omega
  generalize fillA n = F at *
  obtain ⟨Z, hZ⟩ : ∃ Z : Nat → List Int, (fun j => xs ++ List.replicate j 0) = Z := ⟨_, rfl⟩
  have hZ' : ∀ j, xs ++ List.replicate j 0 = Z j := fun j => by rw [← hZ]
  simp only [hZ'] at HE H0 HR HL
  clear h hZ hZ' hl
  go_enter Tryd.func38, Tryd.ntmps38
  go_wp2_with (first
    | (at_builtin; refine wpList_append_byt _ rfl _ _ 22 rfl w.heap.size 5 i0 (.int .u8 0) Tryd.underlying22 hi hz0 hz1 hz2 rfl _ _ rfl (Own.nil _ _ _) _ _ _ _ _ rfl HH.out rfl ?c2 ?c3 ?_)
    | fail)
  case c2 => simp; omega
  case c3 => exact Nat.le_refl _
  intro u w1 hown hg
  have HB1 := hidden ((Below.refl w.heap.size w).grown hg (Nat.le_refl _) (nob _))
  rw [← H0.out] at hown
  obtain ⟨pu, cu, rfl⟩ := hown.form
  rw [HL.out 0, Nat.add_zero] at hown
  rw [HL.out 0, Nat.add_zero]
  have HO1 := hidden hown
  clear hown hg
  go_wp2_with fail
  go_loopw [3] (fun v wr => ∃ (j : Nat) (p1 : Option Addr) (c1 : Nat), j ≤ F ∧ v = .slice p1 (n + j) c1 ∧ Own wr w.heap.size 5 v (Z j) ∧ Below w.heap.size w wr) (fun v _ => F + n - lenV v)
  case atStart => exact ⟨0, pu, cu, by omega, rfl, HO1.out, HB1.out⟩
  case round =>
    obtain ⟨j, p1, c1, hj, rfl, ho, hb⟩ := hrel
    have HO := hidden ho
    have HB := hidden hb
    clear ho hb HO1 HB1
    by_cases hlt : j < F
    · have hm0 := hmin.out j hlt
      have hne : ((((n + j : Nat) : Int)) % 16 != 0) = true := by simp; omega
      have hrn := HR.out j
      go_wp2_with (first
        | (at_builtin; refine wpList_append_byt _ rfl _ _ 22 rfl w.heap.size 5 i0 (.int .u8 0) Tryd.underlying22 hi hz0 hz1 hz2 rfl _ _ rfl (HO.out.alloc _) _ _ _ _ _ rfl (one_byte _ _ 0 ?c0 ?c1) rfl ?c2 ?c3 ?_)
        | fail)
      case c0 => omega
      case c1 => rw [World.cell?_alloc_at _ _ _ _ rfl]; rfl
      case c2 => rw [HL.out j]; omega
      case c3 => have := HB.out.size; simp; omega
      intro u2 w2 hown2 hg2
      have HB2 := hidden ((HB.out.alloc HB.out.size _).grown hg2 (by have := HB.out.size; simp; omega) (fun k hk => (HO.out.lt k hk).1))
      rw [← HR.out j] at hown2
      obtain ⟨p2, c2, rfl⟩ := hown2.form
      rw [HL.out] at hown2 ⊢
      have HO2 := hidden hown2
      clear hown2 hg2 HO HB hne hm0
      go_wp2
      go_roundw
      case rel => exact ⟨j + 1, p2, c2, by omega, rfl, HO2.out, HB2.out⟩
      case measure => simp [lenV]; omega
    · obtain rfl : j = F := by omega
      have hne : ((((n + j : Nat) : Int)) % 16 != 0) = false := by simp; omega
      have hoe := HO.out
      rw [← HE.eq] at hoe
      have HOE := hidden hoe
      clear hoe HO
      go_wp2
      go_ret
      exact ⟨_, rfl, HOE.out, HB.out⟩

set_option maxHeartbeats 1600000 in
set_option maxRecDepth 100000 in
theorem rlittle_any (base : Nat) (u : Value) (ys : List Int) (n : Nat) (w : World) (h : Own w base 5 u ys) (hl : ys.length ≤ 3000000) (hn : n ≤ 18446744073709551615) (hbw : base ≤ w.heap.size) :
    Calls Tryd.prog 39 #[u, .int .u64 n] w fun e w' => ∃ v, e = .returned v ∧ Own w' base 5 v (ys ++ le8 n) ∧ Below base w w' := by
  obtain ⟨i0, hi, hz0, hz1, hz2⟩ := info_parts Tryd.infoByte
  have HD : Hid (∀ j : Nat, j < 8 → dig 256 (j + 1) (n : Int) = dig 256 j (n : Int) ++ [(n : Int) / 2 ^ (8 * j) % 256]) := fun j hj => by
    rw [dig_succ 256 (by omega), show (256 : Int) = 2 ^ 8 from rfl, ← Int.pow_mul]
  have H0 : Hid (ys ++ dig 256 0 (n : Int) = ys) := by show _ = _; simp [dig]
  have HE : Is (ys ++ le8 n) (ys ++ dig 256 8 (n : Int)) := ⟨rfl⟩
  have HL : Hid (∀ j, (dig 256 j (n : Int)).length = j) := fun j => dig_len _ _ _
  have HH := hidden h
  clear h
  generalize le8 n = R at *
  go_enter Tryd.func39, Tryd.ntmps39
  go_wp2_with fail
  go_loopw [0, 5] (fun v i wr => ∃ (j : Nat), j ≤ 8 ∧ i = .int .i64 j ∧ Own wr base 5 v (ys ++ dig 256 j (n : Int)) ∧ Below base w wr) (fun _ i _ => 8 - (intOf i).toNat)
  case atStart => exact ⟨0, by omega, rfl, by rw [H0.out]; exact HH.out, Below.refl _ _⟩
  case round =>
    obtain ⟨j, hj, rfl, ho, hb⟩ := hrel
    have HO := hidden ho
    have HB := hidden hb
    clear ho hb HH
    by_cases hlt : j < 8
    · have hlt' : (j : Int) < 8 := by omega
      have hd := HD.out j hlt
      have hw1 : IntKind.i64.wrap (8 * (j : Int)) = 8 * (j : Int) := by rw [IntKind.wrap_i64]; omega
      have hw2 : IntKind.u64.wrap (8 * (j : Int)) = 8 * (j : Int) := by rw [IntKind.wrap_u64]; omega
      have HDJ := Is.mk hd
      clear hd
      go_wp2_with (first
        | (at_builtin; refine wpList_append_byt _ rfl _ _ 22 rfl base 5 i0 (.int .u8 0) Tryd.underlying22 hi hz0 hz1 hz2 rfl _ _ rfl (HO.out.alloc _) _ _ _ _ _ rfl (one_byte _ _ ((n : Int) / 2 ^ (8 * j) % 256) ?c0 ?c1) rfl ?c2 ?c3 ?_)
        | fail)
      case c0 => exact byte_rng _
      case c1 => rw [World.cell?_alloc_at _ _ _ _ rfl]; rfl
      case c2 => rw [List.length_append, HL.out j]; omega
      case c3 => have := HB.out.size; simp; omega
      intro u2 w2 hown2 hg2
      have HB2 := hidden ((HB.out.alloc (by have := HB.out.size; omega) _).grown hg2 (by have := HB.out.size; simp; omega) (fun k hk => (HO.out.lt k hk).1))
      rw [← HDJ.eq] at hown2
      have HO2 := hidden hown2
      clear hown2 hg2 HO HB
      go_wp2
      go_roundw
      case rel => exact ⟨j + 1, by omega, by go_num, HO2.out, HB2.out⟩
      case measure => simp [intOf]; omega
    · obtain rfl : j = 8 := by omega
      have hoe := HO.out
      rw [← HE.eq] at hoe
      have HOE := hidden hoe
      clear hoe HO
      go_wp2
      go_ret
      exact ⟨_, rfl, HOE.out, HB.out⟩

set_option maxHeartbeats 3200000 in
set_option maxRecDepth 100000 in
theorem rtag_yes (p q r s : Option Addr) (c d n e m f : Nat) (key nonce data cipher : List Int) (w : World) (h : Byt w p 32 c key) (h' : Byt w q 12 d nonce) (hr : Byt w r n e data) (hs : Byt w s m f cipher) (hn : n ≤ 20000) (hm : m ≤ 20000) :
    Calls Tryd.prog 20 #[.slice p 32 c, .slice q 12 d, .slice r n e, .slice s m f] w fun en w' => ∃ v, en = .returned (.tuple #[v, .bool true]) ∧ Own w' w.heap.size 5 v (tagA key nonce data cipher) ∧ Below w.heap.size w w' := by
  obtain ⟨i0, hi, hz0, hz1, hz2⟩ := info_parts Tryd.infoByte
  have HBK := hidden (rblock_yes p q c d key nonce 0 w h h')
  have hL := textA_len data cipher
  have hp1 := padA_len data
  have hp2 := padA_len cipher
  have hP1r := padA_rng data hr.rng
  have hP2r := padA_rng cipher hs.rng
  rw [hr.len, hs.len] at hL
  rw [hr.len] at hp1
  rw [hs.len] at hp2
  have hf1 := fillA_lt n
  have hf2 := fillA_lt m
  have HT : Is (textA data cipher) (((padA data ++ padA cipher) ++ le8 n) ++ le8 m) := ⟨by rw [textA, padA, padA, hr.len, hs.len]; simp only [List.append_assoc]⟩
  have HTG : Is (tagA key nonce data cipher) (tagS ((blockC key 0 nonce).take 32) (textA data cipher)) := ⟨rfl⟩
  have HBL := hidden (blockC_len key 0 nonce)
  have HBR := hidden (blockC_rng key 0 nonce)
  have HF1 := hidden (fun W (hW : Below w.heap.size w W) => rpad_any r n e data W (hr.below hW) (by omega))
  have HF2 := hidden (fun W (hW : Below w.heap.size w W) => rpad_any s m f cipher W (hs.below hW) (by omega))
  have HTR := hidden (textA_rng data cipher hr.rng hs.rng)
  have hw1 : IntKind.u64.wrap (n : Int) = (n : Int) := by rw [IntKind.wrap_u64]; omega
  have hw2 : IntKind.u64.wrap (m : Int) = (m : Int) := by rw [IntKind.wrap_u64]; omega
  have HL8 := hidden (le8_len n)
  generalize tagA key nonce data cipher = T at *
  generalize textA data cipher = TX at *
  generalize blockC key 0 nonce = B at *
  generalize fillA n = F1 at *
  generalize fillA m = F2 at *
  generalize padA data = P1 at *
  generalize padA cipher = P2 at *
  have HP1 := Is.mk hp1
  have HP2 := Is.mk hp2
  have HP2r := hidden hP2r
  have HL := Is.mk hL
  clear h h' hr hs hp1 hp2 hL hP1r hP2r
  go_enter Tryd.func20, Tryd.ntmps20
  go_upto_region 4 with (first
    | (go_at_call 37; (with_reducible refine (HBK.out).mono ?_); rintro en w1 ⟨v1, rfl, ho, hb⟩; obtain ⟨p1, c1, rfl, hy1⟩ := ho.bytN (N := 64) rfl HBL.out HBR.out; have HB1 := hidden hb; have HY1 := hidden (fun W (hW : Below w1.heap.size w1 W) => hy1.below hW); have hc64 := hy1.cap; clear ho hb hy1)
    | fail)
  have HC1 := hidden (HF1.out w1 HB1.out)
  go_upto_region 5 with (first
    | (go_at_call 38; (with_reducible refine (HC1.out).mono ?_); rintro en w2 ⟨v2, rfl, ho2, hb2⟩; have HO2 := hidden ho2; have HX2 := hidden hb2; have HC2 := hidden (HF2.out w2 (HB1.out.trans (hb2.mono HB1.out.size))); clear ho2 hb2)
    | (go_at_call 38; (with_reducible refine (HC2.out).mono ?_); rintro en w3 ⟨v3, rfl, ho3, hb3⟩; obtain ⟨p3, c3, rfl, hy3⟩ := ho3.bytN (N := m + F2) rfl HP2.eq HP2r.out; have HX3 := hidden (HX2.out.trans (hb3.mono HX2.out.size)); have HO3 := hidden (HO2.out.below hb3); have HY3 := hidden hy3; clear ho3 hb3 hy3)
    | (at_builtin; refine wpList_append_byt _ rfl _ _ 22 rfl w1.heap.size 5 i0 (.int .u8 0) Tryd.underlying22 hi hz0 hz1 hz2 rfl _ _ rfl HO3.out _ _ _ _ _ rfl HY3.out rfl ?c2 ?c3 ?_)
    | fail)
  case c2 => rw [HP1.eq]; omega
  case c3 => exact HX3.out.size
  intro u4 w4 hown4 hg4
  have HX4 := hidden (HX3.out.grown hg4 HX3.out.size (fun k hk => (HO3.out.lt k hk).1))
  have HC5 := hidden (rlittle_any w1.heap.size u4 (P1 ++ P2) n w4 hown4 (by rw [List.length_append, HP1.eq, HP2.eq]; omega) (by omega) HX4.out.size)
  have HL4 := Is.mk (show (P1 ++ P2).length = n + F1 + (m + F2) by rw [List.length_append, HP1.eq, HP2.eq])
  clear hown4 hg4
  go_upto_region 6 with (first
    | (go_at_call 39; (with_reducible refine (HC5.out).mono ?_); rintro en w5 ⟨v5, rfl, ho5, hb5⟩; have HX5 := hidden (HX4.out.trans hb5); have HC6 := hidden (rlittle_any w1.heap.size v5 _ m w5 ho5 (by simp only [List.length_append, HP1.eq, HP2.eq, le8_len]; omega) (by omega) HX5.out.size); clear ho5 hb5)
    | (go_at_call 39; (with_reducible refine (HC6.out).mono ?_); rintro en w6 ⟨v6, rfl, ho6, hb6⟩; have HX6 := hidden (HX5.out.trans hb6); have HO6 := hidden ho6; clear ho6 hb6)
    | fail)
  have hps : ∀ (q7 : Option Addr) (c7 : Nat), Byt w6 q7 (n + F1 + m + F2 + 16) c7 TX → Calls Tryd.prog 40 #[.slice p1 32 c1, .slice q7 (n + F1 + m + F2 + 16) c7] w6 fun en w' => ∃ v, en = .returned (.tuple #[v, .bool true]) ∧ Own w' w6.heap.size 5 v T ∧ Below w6.heap.size w6 w' := by
    intro q7 c7 hy
    have := rsum_yes p1 q7 c1 _ c7 (B.take 32) TX w6 ((HY1.out w6 HX6.out).front 32 (by omega)) hy (by omega)
    rw [← HTG.eq] at this
    exact this
  have ho6 := HO6.out
  rw [List.append_assoc, List.append_assoc, ← List.append_assoc P1] at ho6
  obtain ⟨q7, c7, rfl, hy7⟩ := ho6.bytN (N := n + F1 + m + F2 + 16) (us := TX) (by rw [HT.eq]; simp only [List.append_assoc]) HL.eq HTR.out
  have HPS := hidden (hps q7 c7 hy7)
  have HBB := hidden (HB1.out.trans (HX6.out.mono HB1.out.size))
  clear ho6 hy7 hps HO6
  go_wp2_with (first
    | (go_at_call 40; (with_reducible refine (HPS.out).mono ?_); rintro en w7 ⟨v7, rfl, ho7, hb7⟩; have HO7 := hidden ho7; have HB7 := hidden hb7; clear ho7 hb7)
    | fail)
  go_ret2
  exact ⟨_, rfl, HO7.out.mono HBB.out.size, HBB.out.trans (HB7.out.mono HBB.out.size)⟩
end Go.Proofs.YtpocehpejbnemaaDoor
