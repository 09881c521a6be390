/-
  The law MessageReplies, walked: it returns true for every input, and only adds memory of its own.
-/
import Derived.Test.YtkniifopfgeopaaGreatJZ32
import Derived.Test.YtkniifopfgeopaaGreatJZ29
import Derived.Test.YtkniifopfgeopaaGreatJZ3
import Derived.Test.YtkniifopfgeopaaGreatJZ21
namespace Go.Proofs.YtkniifopfgeopaaGreat
open Go.RowKit
set_option linter.unusedVariables false
set_option linter.unusedSimpArgs false

set_option maxHeartbeats 6400000 in
set_option maxRecDepth 100000 in
theorem messageReplies_walk (z0 : Int) (p1 : Option Addr) (n1 c1 : Nat) (xs1 : List Int) (p2 : Option Addr) (n2 c2 : Nat) (xs2 : List Int) (w : World) (g0 : -9223372036854775808 ≤ z0 ∧ z0 ≤ 9223372036854775807) (h1 : Byt w p1 n1 c1 xs1) (r1 : c1 ≤ 140737488351232) (h2 : Byt w p2 n2 c2 xs2) (r2 : c2 ≤ 140737488351232) :
    Calls Tryz.prog 3 #[.int .i64 z0, .slice p1 n1 c1, .slice p2 n2 c2] w fun e w' => e = .returned (.bool true) ∧ Below w.heap.size w w' := by
  have HA := hidden (awake07_any w)
  have H1 := hidden (fun W (hW : Below w.heap.size w W) => h1.below hW)
  have H2 := hidden h2
  have HMD := hidden (fun W => mod_any z0 30 W g0 (by omega))
  obtain ⟨z, hz⟩ : ∃ t, z0 % 30 = t := ⟨_, rfl⟩
  have hzr : 0 ≤ z ∧ z < 30 := by omega
  rw [hz] at HMD
  clear h1 h2 hz
  go_enter Tryz.func3, Tryz.ntmps3
  go_upto_region 3 with (first
    | (go_at_call 4; (with_reducible refine (HA.out).mono ?_); rintro e w1 ⟨rfl, hb⟩; have HB1 := hidden hb; clear hb HA)
    | fail)
  go_wp2_with (first
    | (go_at_call 5; (with_reducible refine (HMD.out _).mono ?_); rintro e w2 ⟨rfl, rfl⟩; clear HMD)
    | fail)
  have hal := (Below.refl w1.heap.size w1).alloc (Nat.le_refl _) (.cells #[.int .i64 z0, .int .i64 z] 3)
  have HKE : Hid (∀ q, q < 2 → ∃ y : Int, (w1.alloc (.cells #[.int .i64 z0, .int .i64 z] 3)).cell? ⟨w1.heap.size, q, none⟩ = some (.int .i64 y)) := hidden (fun q hq => by
    have : q = 0 ∨ q = 1 := by omega
    rcases this with rfl | rfl
    · exact ⟨z0, by go_simp⟩
    · exact ⟨z, by go_simp⟩)
  have HB2 := hidden (HB1.out.trans (hal.mono HB1.out.size))
  generalize World.alloc w1 _ = w3 at *
  generalize w1.heap.size = G1 at *
  clear hal HB1
  go_loopw [29] (fun i wr => ∃ q : Nat, q ≤ 2 ∧ i = .int .i64 (q : Int) ∧ wr = w3) (fun i _ => 2 - (intOf i).toNat)
  case atStart => exact ⟨0, by omega, rfl, rfl⟩
  case round =>
    obtain ⟨q, hq, rfl, rfl⟩ := hrel
    by_cases hq2 : q < 2
    · obtain ⟨y, hy⟩ := HKE.out q hq2
      have HP := hidden (fun W => reply_any y W)
      have HQ := hidden (fun W => rreply_any y W)
      generalize replyN y = N at *
      generalize decide (Rpl y) = B at *
      have hqI : (q : Int) < 2 := by omega
      have hqI0 : (0 : Int) ≤ (q : Int) := by omega
      clear HKE
      go_wp2_with (first
        | (go_at_call 6; (with_reducible refine (HP.out _).mono ?_); rintro e w4 ⟨rfl, rfl⟩)
        | (go_at_call 7; (with_reducible refine (HQ.out _).mono ?_); rintro e w5 ⟨rfl, rfl⟩)
        | fail)
      go_roundw
      case rel => exact ⟨q + 1, by omega, by go_num, by first | rfl | trivial⟩
      case measure => simp [intOf] <;> omega
    obtain rfl : q = 2 := by omega
    clear HKE hq hq2
    go_upto_region 12 with (first
      | (go_at_call 8; (refine (new_any w p2 n2 c2 xs2 _ H2.out HB2.out 240 (by omega)).mono ?_); rintro e w4 ⟨rfl, hcod, hbel⟩; have HC4 := hidden hcod; have HB4 := hidden (HB2.out.trans (hbel.mono HB2.out.size)); clear hcod hbel H2)
      | fail)
    have hk := HC4.out.lt
    have hkb := HC4.out.base
    obtain ⟨k, hkk⟩ : ∃ k, wr.heap.size = k := ⟨_, rfl⟩
    rw [hkk] at HC4 hk hkb ⊢
    clear hkk HB2
    have HMM := hidden (message_any w w4 k HC4.out)
    unfold MadeMsg at HMM
    have hB4 := HB4.out.size
    go_upto_region 13 with (first
      | (go_at_call 10; (with_reducible refine (HMM.out).mono ?_); rintro e w5 ⟨i, r, nx, x, f, m, q, n, d, l, rfl, hn7, hko, hx4, hrd, hc5, hg5, hgd, hpv⟩; have HC5 := hidden hc5; have HB5 := hidden (HB4.out.grown hg5 hB4 (fun j e => by cases e; exact hkb)); have hs5 := hg5.size; have HBU := hidden (mbuild_any i r nx x f m hgd q n d l w5 (hrd w5 (Kpt.refl _ _)) hn7 hko (fun y hy => by obtain ⟨C, a1, a2, a3⟩ := hpv y hy; exact ⟨C, a1, a2, a3 w5 (Kpt.refl _ _)⟩)); clear hrd hc5 hg5 hgd hpv hko hx4 hn7 HMM)
      | (go_at_call 9; (with_reducible refine (HBU.out).mono ?_); rintro e w6 ⟨px, nn, cx, xx, E6, rfl, hbx, hnx, hb6⟩; have HBO := hidden hbx; have HC6 := hidden (HC5.out.below hb6); have HB6 := hidden (HB5.out.trans (hb6.mono HB5.out.size)); clear hbx hb6 HBU HC5 HB5)
      | fail)
    have HCG := hidden (change_bod w w6 k HC6.out px nn cx xx HBO.out.byt (by omega))
    unfold MadeB at HCG
    go_upto_block 2 with (first
      | (go_at_call 11; (with_reducible refine (HCG.out).mono ?_); rintro e w7 ⟨py, ny, cy, ys, rfl, hby, -, -, hg7⟩; have HBY := hidden hby.byt; have HBX := hidden (HBO.out.grown hg7 (OffB.low (by omega))); have HB7 := hidden (HB6.out.grown hg7 HB6.out.size (fun j e => by cases e; exact hkb)); clear hby hg7 HCG HBO HC6 HB6)
      | fail)
    have hal := (Below.refl w7.heap.size w7).alloc (Nat.le_refl _) (.cells #[.slice p1 n1 c1, .slice px nn cx, .slice py ny cy] 22)
    have HZL : Hid (∀ q, q < 3 → ∃ p n c ys, (w7.alloc (.cells #[.slice p1 n1 c1, .slice px nn cx, .slice py ny cy] 22)).cell? ⟨w7.heap.size, q, none⟩ = some (.slice p n c) ∧ Byt (w7.alloc (.cells #[.slice p1 n1 c1, .slice px nn cx, .slice py ny cy] 22)) p n c ys) := hidden (fun q hq => by
      have : q = 0 ∨ q = 1 ∨ q = 2 := by omega
      rcases this with rfl | rfl | rfl
      · exact ⟨p1, n1, c1, xs1, by go_simp, (H1.out w7 HB7.out).below hal⟩
      · exact ⟨px, nn, cx, xx, by go_simp, HBX.out.byt.below hal⟩
      · exact ⟨py, ny, cy, ys, by go_simp, HBY.out.below hal⟩)
    have HB8 := hidden (HB7.out.trans (hal.mono HB7.out.size))
    generalize World.alloc w7 _ = w8 at *
    generalize w7.heap.size = G7 at *
    clear hal HB7 HBX HBY H1
    go_wp2_with fail
    go_loopw [67] (fun i wr => ∃ q : Nat, q ≤ 3 ∧ i = .int .i64 (q : Int) ∧ Below w8.heap.size w8 wr) (fun i _ => 3 - (intOf i).toNat)
    case atStart => exact ⟨0, by omega, rfl, Below.refl _ _⟩
    case round =>
      obtain ⟨q, hq, rfl, hbq⟩ := hrel
      have HBQ := hidden hbq
      by_cases hq3 : q < 3
      · obtain ⟨pz, nz, cz, xz, hzc, hzy⟩ := HZL.out q hq3
        have hzc2 := cell_below hbq _ _ hzc
        have HPP := hidden (mparse_any pz nz cz xz wr (hzy.below hbq))
        unfold ReadM at HPP
        have hqI : (q : Int) < 3 := by omega
        have hqI0 : (0 : Int) ≤ (q : Int) := by omega
        clear hzc hzy hbq HZL
        go_upto_region 17 with (first
          | (go_at_call 12; (with_reducible refine (HPP.out).mono ?_); rintro e w9 ⟨i', r', nx', x', f', m', q', n', d', E', rfl, hE', hb9⟩; have HE := hidden hE'; have HB9 := hidden (HBQ.out.trans (hb9.mono HBQ.out.size)); clear hE' hb9 HPP)
          | fail)
        have hal := (Below.refl w9.heap.size w9).alloc (Nat.le_refl _) (.cells #[.int .u64 i', .int .u64 r', .int .i64 nx', .int .i64 x', .int .i64 f', .int .u32 m', .slice q' n' d'] 39)
        have HB10 := hidden (HB9.out.trans (hal.mono HB9.out.size))
        generalize World.alloc w9 _ = w10 at *
        generalize w9.heap.size = G9 at *
        clear hal HB9 hzc2
        by_cases hE0 : E' = 0
        · subst hE0
          go_wp2_with fail
          go_roundw
          case rel => exact ⟨q + 1, by omega, by go_num, HB10.out⟩
          case measure => simp [intOf] <;> omega
        · have hE2 : (E' != 0) = true := by simpa using hE0
          have HRP := hidden (fun W => reply_any E' W)
          rw [decide_eq_true (HE.out.resolve_left hE0)] at HRP
          generalize replyN E' = N9 at *
          go_wp2_with (first
            | (go_at_call 6; (with_reducible refine (HRP.out _).mono ?_); rintro e w11 ⟨rfl, rfl⟩)
            | fail)
          go_roundw
          case rel => exact ⟨q + 1, by omega, by go_num, HB10.out⟩
          case measure => simp [intOf] <;> omega
      · obtain rfl : q = 3 := by omega
        have HBF := hidden (HB8.out.trans (hbq.mono HB8.out.size))
        clear HZL hbq
        go_wp2_with fail
        go_ret
        exact ⟨rfl, HBF.out⟩
end Go.Proofs.YtkniifopfgeopaaGreat
