/-
  The law SelectorReturns, walked: it returns true for every input, and only adds memory of its own.
-/
import Derived.Test.YtnehhpkdfkemaaaSame5
import Derived.Test.YtnehhpkdfkemaaaSelLaws
namespace Go.Proofs.Ytnehhpkdfkemaaa
open Go.RowKit
set_option linter.unusedVariables false

theorem offNone (w : World) (base : Nat) (row : Option Nat) : OffT NSl.ts w base row := fun r hr => Or.inr (fun _ _ _ _ hm => by cases hm)
theorem built_good (l : List Sl) (h : ∀ s ∈ l, GoodS s) (h1 : 1 ≤ l.length) (h2 : l.length ≤ 16) : buildS l = ([(l.length : Int), 0, 0, 0] ++ encL l, 0) := by
  unfold buildS
  rw [if_neg (by omega), if_neg (by omega), if_neg (by rw [errL_good (fun s hs => (h s hs).check)]; simp)]

set_option maxHeartbeats 3200000 in
set_option maxRecDepth 100000 in
theorem selectorReturns_walk (p : Option Addr) (n c : Nat) (xs : List Int) (noise : Int) (w : World) (h : Byt w p n c xs) (b0 : c ≤ 140737488351232) (g1 : 0 ≤ noise ∧ noise ≤ 255) :
    Calls Try.prog 9 #[.slice p n c, .int .u8 noise] w fun e w' => e = .returned (.bool true) ∧ Below w.heap.size w w' := by
  have HX := hidden h
  have HA := hidden (awake05_any w)
  clear h
  go_enter Try.func9, Try.ntmps9
  go_wp2_with (first
    | (go_at_call 26; (with_reducible refine (HA.out).mono ?_); rintro e w1 ⟨rfl, hb⟩; have HB1 := hidden hb; clear hb HA)
    | (go_at_call 13; (refine (new_any w p n c xs _ HX.out HB1.out 200 (by omega)).mono ?_); rintro e w2 ⟨rfl, hc, hb⟩; have HC2 := hidden hc; have hk2 := hc.lt; have hwb := hc.bel.size; clear hc hb HB1 HX)
    | (go_at_call 28; (refine (sels_any w _ _ HC2.out 4 (by omega) (by omega)).mono ?_); rintro e w3 ⟨v1, l1, f1, rfl, hf1, h1a, h1b, hd1⟩; have HD1 := hidden hd1; obtain ⟨q1, d1, rfl⟩ := hd1.row.form rfl; clear hd1 HC2)
    | (go_at_call 28; (refine (sels_any w _ _ HD1.out.cod 3 (by omega) (by omega)).mono ?_); rintro e w4 ⟨v2, l2, f2, rfl, hf2, h2a, h2b, hd2⟩; have HD2 := hidden hd2; have HR1 := hidden (HD1.out.row.low hd2.gr hk2); have HG2 := hidden (grown_trans HD1.out.gr hd2.gr); obtain ⟨q2, d2, rfl⟩ := hd2.row.form rfl; clear hd2)
    | (at_builtin; go_loud (refine wpList_append_g knownSl (by simp [NSl]) _ rfl _ _ rfl _ _ l1 rfl HR1.out _ _ _ l2 rfl HD2.out.row.src (fun x hx => fam_fits (HD2.out.all x hx)) (by unfold maxLen; omega) (by omega) HG2.out.size ?_))
    | fail)
  intro v5 w5 hr5 hg5
  have hgood : ∀ s ∈ l1 ++ l2, GoodS s := fun s hs => by
    rcases List.mem_append.1 hs with hs | hs
    · exact (HD1.out.all s hs).good
    · exact (HD2.out.all s hs).good
  have hll : 1 ≤ (l1 ++ l2).length ∧ (l1 ++ l2).length ≤ 7 := by rw [List.length_append]; omega
  have HB5 := hidden (HD2.out.cod.bel.grown hg5 HD2.out.cod.bel.size (fun g hg => by have := (HR1.out.lt g hg).1; omega))
  clear hg5
  generalize l1 ++ l2 = l at *
  clear HD1 HD2 HR1 HG2 h1a h1b h2a h2b hf1 hf2
  obtain ⟨ql, dl, rfl, hrdl⟩ := hr5.rd (D := DSlr) rfl (fun _ h => h)
  have hp0 := parse_encS l hgood hll.1 (by omega) 0 0 0
  have hp1 := parse_encS l hgood hll.1 (by omega) 0 noise 0
  have HBD := hidden (sbuild_any ql l.length dl l w5 hrdl _ 0 (built_good l hgood hll.1 (by omega)))
  have hel := encL_le l hgood
  have her := encL_rng l
  obtain ⟨N, hN⟩ : ∃ N, l.length = N := ⟨_, rfl⟩
  obtain ⟨X, hX⟩ : ∃ X, encL l = X := ⟨_, rfl⟩
  rw [hN] at hp0 hp1 HBD hel hll
  rw [hX] at hp0 hp1 HBD hel her
  have HR5 : Hid (RowG KSl NSl w5 _ (.slice ql l.length dl) l) := hidden hr5
  have HN := hidden hN
  rw [hN] at HR5 ⊢
  clear hr5 hrdl hgood hN hX
  have HP0 := hidden hp0
  have HP1 := hidden hp1
  have hL : ([(N : Int), 0, 0, 0] ++ X).length = 4 + X.length := by simp; omega
  have hrng : ∀ z : Int, 0 ≤ z ∧ z ≤ 255 → ∀ y ∈ [(N : Int), 0, z, 0] ++ X, 0 ≤ y ∧ y ≤ 255 := fun z hz => rng_append (by intro y hy; simp at hy; omega) her
  clear hp0 hp1
  go_wp2_with (first
    | (go_at_call 33; (with_reducible refine (HBD.out).mono ?_); rintro e w6 ⟨v6, rfl, ho, hb⟩; obtain ⟨gb, cb, rfl, hgb0, hgb1, hcell, hfr⟩ := ho.at_ hL (by omega); have HO6 := hidden ho; have HB6 := hidden (HB5.out.trans (hb.mono HB5.out.size)); have HR6 := hidden (HR5.out.below hb); have c2 := hcell 2 (by omega); have f2 := hfr 2; obtain ⟨pb, cb', he, hy⟩ := ho.bytN rfl hL (hrng 0 (by omega)); simp at he; obtain ⟨rfl, rfl⟩ := he; have HY6 := hidden hy; have hxl4 : ¬ (4 + X.length : Int) < 4 := (by omega); clear ho hb hcell hfr hy)
    | fail)
  have hw5 : w5.heap.size ≤ gb := hgb0
  have HLX := hidden hL
  have HRNG := hidden (hrng noise g1)
  clear hL hrng her HBD c2 f2
  have HPA := hidden (fun w h => sparse_any (some ⟨gb, 0, none⟩) (4 + X.length) cb ([(N : Int), 0, 0, 0] ++ X) w h _ HP0.out)
  have HPB := hidden (fun w h => sparse_any (some ⟨gb, 0, none⟩) (4 + X.length) cb ([(N : Int), 0, noise, 0] ++ X) w h _ HP1.out)
  go_upto_region 10 with (first
    | (go_at_call 29; (with_reducible refine (HPA.out _ HY6.out).mono ?_); rintro e w7 ⟨v7, rfl, hr7, hb⟩; have HO7 := hidden (HO6.out.below hb); have HR7 := hidden (HR6.out.below hb); have HB7 := hidden (HB6.out.trans (hb.mono HB6.out.size)); have HX7 := hidden hr7; obtain ⟨_, _, he, -, -, hcell, hfr⟩ := HO7.out.at_ HLX.out (by omega); simp at he; obtain ⟨rfl, rfl⟩ := he; have c2 := hcell 2 (by omega); have f2 := hfr 2; clear hr7 hb hcell hfr HO6 HR6 HB6 HY6)
    | fail)
  have HO8 := hidden (HO7.out.set HLX.out 2 noise)
  have HR8 := hidden (HR7.out.grown (grown_set w7 gb 2 (.int .u8 noise)) (fun r hr => by cases hr; intro e; have := (HR5.out.lt gb e).2; omega) (offNone _ _ _))
  have HX8 := hidden (HX7.out.grown (grown_set w7 gb 2 (.int .u8 noise)) (fun r hr => by cases hr; intro e; have := (HX7.out.lt gb e).1; omega) (offNone _ _ _))
  have HB8 := hidden (HB7.out.setCell (p := ⟨gb, 2, none⟩) (by have := HB5.out.size; simp; omega) (.int .u8 noise))
  have hset : ([(N : Int), 0, 0, 0] ++ X).set 2 noise = [(N : Int), 0, noise, 0] ++ X := rfl
  rw [hset] at HO8
  have hY8 : ∃ p c, Value.slice (some ⟨gb, 0, none⟩) (4 + X.length) cb = .slice p (4 + X.length) c ∧ Byt (w7.setCell ⟨gb, 2, none⟩ (.int .u8 noise)) p (4 + X.length) c ([(N : Int), 0, noise, 0] ++ X) := HO8.out.bytN rfl (by simp; omega) HRNG.out
  obtain ⟨_, _, he, hy⟩ := hY8
  simp at he
  obtain ⟨rfl, rfl⟩ := he
  have HY8 := hidden hy
  generalize hw8 : w7.setCell ⟨gb, 2, none⟩ (.int .u8 noise) = w8 at *
  clear hw8 hy c2 f2 HO7 HR7 HX7 HB7 HO8
  obtain ⟨qx, dx, rfl, hrdx⟩ := HX8.out.rd (D := DSlr) HN.out (fun _ h => h)
  have HX8b := hidden hrdx
  obtain ⟨ql', dl', hle, hrdl⟩ := HR8.out.rd (D := DSlr) HN.out (fun _ h => h)
  simp at hle
  obtain ⟨rfl, rfl⟩ := hle
  have HL8 := hidden hrdl
  clear hrdx hrdl HX8 HR8 HR5 HPA
  go_wp2_with (first
    | (go_at_call 29; (with_reducible refine (HPB.out _ HY8.out).mono ?_); rintro e w9 ⟨v9, rfl, hr9, hb⟩; have HB9 := hidden (HB8.out.trans (hb.mono HB8.out.size)); obtain ⟨qy, dy, rfl, hrdy⟩ := RowG.rd (D := DSlr) hr9 HN.out (fun _ h => h); have HY9 := hidden hrdy; have HX9 := hidden (HX8b.out.below hb); have HL9 := hidden (HL8.out.below hb); have HS1 := hidden (same5_yes _ _ N _ _ l w9 HX9.out HL9.out); clear hr9 hrdy hb HY8 HX8b HL8)
    | (go_at_call 31; (with_reducible refine (HS1.out).mono ?_); rintro e w10 ⟨rfl, hb⟩; have HB10 := hidden (HB9.out.trans (hb.mono HB9.out.size)); have HS2 := hidden (same5_yes _ _ N _ _ l w10 (HY9.out.below hb) (HL9.out.below hb)); clear hb HS1)
    | (go_at_call 31; (with_reducible refine (HS2.out).mono ?_); rintro e w11 ⟨rfl, hb⟩; have HB11 := hidden (HB10.out.trans (hb.mono HB10.out.size)); clear hb)
    | fail)
  go_ret
  exact ⟨rfl, HB11.out⟩
end Go.Proofs.Ytnehhpkdfkemaaa
