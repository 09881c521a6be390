/-
  The law PayloadLimits, walked: it returns true for every input, and only adds memory of its own.
-/
import Derived.Test.YtignenekomlleaaPayAwake
import Derived.Test.YtignenekomlleaaPayIdent
import Derived.Test.YtignenekomlleaaPayP40
import Derived.Test.YtignenekomlleaaPayP35
import Derived.Test.YtignenekomlleaaMod
namespace Go.Proofs.Ytignenekomlleaa
open Go.RowKit
set_option linter.unusedVariables false

theorem own_four6 (w : World) (base : Nat) (hb : base ≤ w.heap.size) (x0 x1 x2 x3 : Int) : Own (w.alloc (.cells #[.int .u8 x0, .int .u8 x1, .int .u8 x2, .int .u8 x3] 5)) base 5 (.slice (some ⟨w.heap.size, 0, none⟩) 4 4) [x0, x1, x2, x3] := by
  have := World.ownsRow_lit (base := base) (e := 5) (size := 1) w #[.int .u8 x0, .int .u8 x1, .int .u8 x2, .int .u8 x3] 4 hb (by unfold maxLen; omega) rfl
  exact this

set_option maxHeartbeats 3200000 in
set_option maxRecDepth 100000 in
theorem payloadLimits_walk (z k : Int) (w : World) (g0 : -9223372036854775808 ≤ z ∧ z ≤ 9223372036854775807) (g1 : 0 ≤ k ∧ k ≤ 255) :
    Calls Try.prog 6 #[.int .i64 z, .int .u8 k] w fun e w' => e = .returned (.bool true) ∧ Below w.heap.size w w' := by
  obtain ⟨i0, hi0, hz0, hz1, hz2⟩ := info_parts Try.infoByte
  have HA := hidden (awake06_any w)
  obtain ⟨M, hM⟩ : ∃ M : Nat, z % 300 = M := Int.eq_ofNat_of_zero_le (Int.emod_nonneg z (by decide))
  have hM3 : M < 300 := by have := Int.emod_lt_of_pos z (show (0 : Int) < 300 by decide); omega
  have HMOD := hidden (fun w => mod_any z 300 w g0 (by omega))
  rw [hM] at HMOD
  clear hM
  go_enter Try.func6, Try.ntmps6
  go_wp2_with (first
    | (go_at_call 32; (with_reducible refine (HA.out).mono ?_); rintro e w1 ⟨rfl, hb⟩; have HB1 := hidden hb; clear hb HA)
    | (go_at_call 33; (with_reducible refine (HMOD.out _).mono ?_); rintro e w' ⟨rfl, rfl⟩)
    | (at_make; go_loud (refine wpList_make_byt _ rfl _ _ 22 rfl w.heap.size 5 i0 Try.underlying22 hi0 hz0 hz1 hz2 .i64 .i64 M M M M rfl rfl rfl rfl (Nat.le_refl _) (by omega) HB1.out.size ?_))
    | fail)
  intro w2 ho hg
  have HB2 := hidden (HB1.out.grown hg HB1.out.size (by simp))
  obtain ⟨_, _, he, hy⟩ := ho.bytN rfl (List.length_replicate) (fun x hx => by rw [List.eq_of_mem_replicate hx]; omega)
  simp at he
  obtain ⟨rfl, rfl⟩ := he
  have HP := hidden (pparse_40 _ M M _ false (nonceE M) (gdData (List.replicate M 0)) w2 hy (fun w h => nonce_read _ _ _ _ w h (by omega)))
  obtain ⟨E1, hE1⟩ : ∃ E, nonceE M = E := ⟨_, rfl⟩
  rw [hE1] at HP
  have HE1 := hidden hE1
  clear ho hg hy hE1 HB1
  go_upto_region 5 with (first
    | (go_at_call 34; (with_reducible refine (HP.out).mono ?_); rintro e w3 ⟨x, rfl, hb3, -⟩; have HB3 := hidden ((HB2.out.trans (hb3.mono HB2.out.size)).alloc (HB2.out.trans (hb3.mono HB2.out.size)).size (.cells #[.int .i64 x.t, .slice x.pr.p x.pr.n x.pr.c, .int .i64 x.eg, .slice x.ed.p x.ed.n x.ed.c, .int .i64 x.ik, .slice x.id.p x.id.n x.id.c, .int .i64 x.am, .slice x.ad.p x.ad.n x.ad.c, .int .i64 x.np, .slice x.ns.p x.ns.n x.ns.c, .int .i64 x.nt, .slice x.nd.p x.nd.n x.nd.c, .int .i64 x.dp, .slice x.ds.p x.ds.n x.ds.c, .slice x.se.p x.se.n x.se.c, .slice x.da.p x.da.n x.da.c] 68)); clear hb3)
    | fail)
  generalize w3.alloc (.cells #[.int .i64 x.t, .slice x.pr.p x.pr.n x.pr.c, .int .i64 x.eg, .slice x.ed.p x.ed.n x.ed.c, .int .i64 x.ik, .slice x.id.p x.id.n x.id.c, .int .i64 x.am, .slice x.ad.p x.ad.n x.ad.c, .int .i64 x.np, .slice x.ns.p x.ns.n x.ns.c, .int .i64 x.nt, .slice x.nd.p x.nd.n x.nd.c, .int .i64 x.dp, .slice x.ds.p x.ds.n x.ds.c, .slice x.se.p x.se.n x.se.c, .slice x.da.p x.da.n x.da.c] 68) = w4 at *
  go_cut [39] from 23 to 39 (fun v wx => v = .bool false ∧ w4 = wx)
  case first =>
    have he := HE1.out
    unfold nonceE at he
    have hm : (M : Int) < 16 ∨ (16 ≤ (M : Int) ∧ (M : Int) ≤ 256) ∨ (16 ≤ (M : Int) ∧ 256 < (M : Int)) := by omega
    have hda : ∀ b, decide ((M : Int) ≤ 256) = b → decide ((M : Int) ≤ 256) = b := fun b h => h
    rcases hm with h1 | ⟨h1, h2⟩ | ⟨h1, h2⟩
    · rw [if_pos (by omega)] at he
      subst he
      go_wp2
      go_meet
      case rel => exact ⟨rfl, rfl⟩
    · rw [if_neg (by omega)] at he
      subst he
      have hd := hda true (by simp; omega)
      go_wp2
      go_meet
      case rel => exact ⟨rfl, rfl⟩
    · rw [if_pos (by omega)] at he
      subst he
      have hd := hda false (by simp; omega)
      go_wp2
      go_meet
      case rel => exact ⟨rfl, rfl⟩
  case rest =>
    obtain ⟨rfl, rfl⟩ := hcut
    clear HE1
    have HO4 := hidden (own_four6 w4 w.heap.size HB3.out.size k 0 0 0)
    have HB4 := hidden (HB3.out.alloc HB3.out.size (.cells #[.int .u8 k, .int .u8 0, .int .u8 0, .int .u8 0] 5))
    obtain ⟨N, hN⟩ : ∃ N, M % 20 = N := ⟨_, rfl⟩
    have hN' : (M : Int) % 20 = N := by omega
    have hN2 : N < 20 := by omega
    have hs3 := HB3.out.size
    go_wp2_with (first
      | (at_builtin; go_loud (refine wpList_append_zeros _ rfl _ _ 22 3 rfl w.heap.size 5 i0 Try.underlying22 Try.underlying3 hi0 hz0 hz1 hz2 w4.heap.size 4 4 [k, 0, 0, 0] rfl HO4.out rfl _ N rfl (by first | rfl | exact hN' | omega) (by omega) (by omega) HB4.out.size ?_))
      | fail)
    intro v5 w5 ho hg
    have HB5 := hidden (HB4.out.grown hg HB4.out.size (fun j hj => by cases hj; exact hs3))
    obtain ⟨q5, d5, rfl, hy⟩ := ho.bytN (us := [k, 0, 0, 0] ++ List.replicate N 0) (N := 4 + N) rfl (by simp; omega) (rng_append (by intro y hy; simp at hy; omega) (fun x hx => by rw [List.eq_of_mem_replicate hx]; omega))
    obtain ⟨E2, hE2⟩ : ∃ E, idE k N = E := ⟨_, rfl⟩
    have hid : identE ([k, 0, 0, 0] ++ List.replicate N 0) (4 + N) = E2 := by
      unfold identE
      rw [if_neg (by omega), show 4 + N - 4 = N by omega]
      exact hE2
    have HP2 := hidden (pparse_35 _ _ _ _ false _ (gdIdent ([k, 0, 0, 0] ++ List.replicate N 0)) w5 hy (fun w h => identity_read _ _ _ _ w h (by omega)))
    rw [hid] at HP2
    have HE2 := hidden hE2
    clear ho hg hy hE2 hid HB4 HO4
    go_upto_region 9 with (first
      | (go_at_call 34; (with_reducible refine (HP2.out).mono ?_); rintro e w6 ⟨x6, rfl, hb6, -⟩; have HB6 := hidden ((HB5.out.trans (hb6.mono HB5.out.size)).alloc (HB5.out.trans (hb6.mono HB5.out.size)).size (.cells #[.int .i64 x6.t, .slice x6.pr.p x6.pr.n x6.pr.c, .int .i64 x6.eg, .slice x6.ed.p x6.ed.n x6.ed.c, .int .i64 x6.ik, .slice x6.id.p x6.id.n x6.id.c, .int .i64 x6.am, .slice x6.ad.p x6.ad.n x6.ad.c, .int .i64 x6.np, .slice x6.ns.p x6.ns.n x6.ns.c, .int .i64 x6.nt, .slice x6.nd.p x6.nd.n x6.nd.c, .int .i64 x6.dp, .slice x6.ds.p x6.ds.n x6.ds.c, .slice x6.se.p x6.se.n x6.se.c, .slice x6.da.p x6.da.n x6.da.c] 68)); clear hb6)
      | fail)
    generalize w6.alloc (.cells #[.int .i64 x6.t, .slice x6.pr.p x6.pr.n x6.pr.c, .int .i64 x6.eg, .slice x6.ed.p x6.ed.n x6.ed.c, .int .i64 x6.ik, .slice x6.id.p x6.id.n x6.id.c, .int .i64 x6.am, .slice x6.ad.p x6.ad.n x6.ad.c, .int .i64 x6.np, .slice x6.ns.p x6.ns.n x6.ns.c, .int .i64 x6.nt, .slice x6.nd.p x6.nd.n x6.nd.c, .int .i64 x6.dp, .slice x6.ds.p x6.ds.n x6.ds.c, .slice x6.se.p x6.se.n x6.se.c, .slice x6.da.p x6.da.n x6.da.c] 68) = w7 at *
    have hq := idE_cases k N E2 HE2.out
    clear HE2 hN HP2 HP HB5 HB3 HB2
    have hdN : ∀ (z : Int) b, ((N : Int) == z) = b → ((N : Int) == z) = b := fun _ _ h => h
    rcases hq with ⟨rfl, ⟨h, rfl⟩ | ⟨h, rfl⟩⟩ | ⟨k1, rfl, ⟨h, rfl⟩ | ⟨h, rfl⟩⟩ | ⟨k1, k2, k3, ⟨h, rfl⟩ | ⟨h, rfl⟩⟩ | ⟨k1, k2, k3, k4, k5, rfl⟩
    all_goals (try rcases k3 with rfl | rfl | rfl)
    all_goals (try subst h)
    all_goals (try have hz4 := hdN 4 false (by simp; omega))
    all_goals (try have hz16 := hdN 16 false (by simp; omega))
    all_goals (try have hge : (0 : Int) < N := (by omega))
    all_goals (try clear h)
    all_goals
      clear hdN
      go_wp2
      go_ret
      exact ⟨by first | (simp; done) | (simp; omega), HB6.out⟩
end Go.Proofs.Ytignenekomlleaa
