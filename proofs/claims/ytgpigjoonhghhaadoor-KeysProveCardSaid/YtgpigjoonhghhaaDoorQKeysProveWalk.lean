/-
  The law KeysProve, walked: it returns true for every input, and only adds memory of its own.
-/
import Derived.Test.YtgpigjoonhghhaaDoorQKeyAw
import Derived.Test.YtgpigjoonhghhaaDoorQKeyOct
import Derived.Test.YtgpigjoonhghhaaDoorQRCompare
import Derived.Test.YtgpigjoonhghhaaDoorQMod
namespace Go.Proofs.YtgpigjoonhghhaaDoor
open Go.RowKit
set_option linter.unusedVariables false
theorem equal_like (p q : Option Addr) (n c m d : Nat) (L : List Int) (W : World) (h : Byt W p n c L) (k : Byt W q m d L) :
    Calls Tryd.prog 12 #[.slice p n c, .slice q m d] W fun e w' => e = .returned (.bool true) ∧ Below W.heap.size W w' := by
  have := requal_any p q n c m d L L W h k
  rw [show decide (L = L) = true from decide_eq_true rfl] at this
  refine this.mono ?_
  rintro e w' ⟨rfl, r, rfl⟩
  exact ⟨rfl, below_drewN r⟩
set_option maxHeartbeats 3200000 in
set_option maxRecDepth 100000 in
theorem keysProve_walk (p0 : Option Addr) (n0 c0 : Nat) (xs0 : List Int) (p1 : Option Addr) (n1 c1 : Nat) (xs1 : List Int) (p2 : Option Addr) (n2 c2 : Nat) (xs2 : List Int) (p3 : Option Addr) (n3 c3 : Nat) (xs3 : List Int) (z4 : Int) (p5 : Option Addr) (n5 c5 : Nat) (xs5 : List Int) (w : World) (h0 : Byt w p0 n0 c0 xs0) (r0 : c0 ≤ 140737488351232) (h1 : Byt w p1 n1 c1 xs1) (r1 : c1 ≤ 140737488351232) (h2 : Byt w p2 n2 c2 xs2) (r2 : c2 ≤ 140737488351232) (h3 : Byt w p3 n3 c3 xs3) (r3 : c3 ≤ 140737488351232)
    (g4 : -9223372036854775808 ≤ z4 ∧ z4 ≤ 9223372036854775807) (h5 : Byt w p5 n5 c5 xs5) (r5 : c5 ≤ 140737488351232) (hK : KAt w) :
    Calls Tryd.prog 4 #[.slice p0 n0 c0, .slice p1 n1 c1, .slice p2 n2 c2, .slice p3 n3 c3, .int .i64 z4, .slice p5 n5 c5] w fun e w' => e = .returned (.bool true) ∧ Below w.heap.size w w' := by
  have HA := hidden (awake16_any w hK)
  have HK := hidden (fun W (hW : Below w.heap.size w W) => hK.below hW hK.lt)
  have q0 := h0.cap
  have q1 := h1.cap
  have q2 := h2.cap
  have q3 := h3.cap
  have q5 := h5.cap
  have b0 : n0 ≤ 140737488351232 := by omega
  have b1 : n1 ≤ 140737488351232 := by omega
  have b2 : n2 ≤ 140737488351232 := by omega
  have b3 : n3 ≤ 140737488351232 := by omega
  have b5 : n5 ≤ 140737488351232 := by omega
  clear r0 r1 r2 r3 r5 q0 q1 q2 q3 q5
  go_enter Tryd.func4, Tryd.ntmps4
  by_cases hs : n0 + n1 + n2 + n3 + n5 ≤ 1500
  rotate_left
  · have ha : (1500 : Int) < (n0 : Int) + n1 + n2 + n3 + n5 := by omega
    clear h0 h1 h2 h3 h5 hK
    go_wp2_with (first
      | (go_at_call 7; (with_reducible refine (HA.out).mono ?_); rintro e w1 ⟨rfl, hb⟩; have HB1 := hidden hb; clear hb)
      | fail)
    go_ret
    exact ⟨rfl, HB1.out⟩
  have ha : ¬ (1500 : Int) < (n0 : Int) + n1 + n2 + n3 + n5 := by omega
  have s0 : n0 ≤ 1500 := by omega
  have s1 : n1 ≤ 1500 := by omega
  have s2 : n2 ≤ 1500 := by omega
  have s3 : n3 ≤ 1500 := by omega
  have s5 : n5 ≤ 1500 := by omega
  have s01 : n0 + (n1 + 32) ≤ 1600 := by omega
  have HMD := hidden (fun W => mod_any z4 256 W g4 (by omega))
  have HOR := hidden (fun k => octR_rng xs2 k xs5 h0.rng h1.rng)
  have HOL := hidden (fun k => octR_len xs0 xs1 xs2 k xs5)
  have hl0 := h0.len
  have hl1 := h1.len
  obtain ⟨k, hk⟩ : ∃ k, z4 % 256 = k := ⟨_, rfl⟩
  have hk1 : 0 ≤ k ∧ k ≤ 255 := by omega
  rw [hk] at HMD
  have HO := hidden (fun W (hW : Below w.heap.size w W) => koct_any p0 p1 p2 p5 n0 n1 n2 n5 c0 c1 c2 c5 xs0 xs1 xs2 xs5 k W (h0.below hW) (h1.below hW) (h2.below hW) (h5.below hW) hk1 (by omega) (by omega) (by omega) (by omega) (HK.out W hW))
  have HRO := hidden (fun W (hW : Below w.heap.size w W) => rkoct_any p0 p1 p2 p5 n0 n1 n2 n5 c0 c1 c2 c5 xs0 xs1 xs2 xs5 k W (h0.below hW) (h1.below hW) (h2.below hW) (h5.below hW) hk1 (by omega) (by omega) (by omega) (by omega))
  have hOl := HOL.out k
  have hOr := HOR.out k
  rw [hl0, hl1] at hOl
  have HS := hidden (fun (q : Option Addr) (d : Nat) W (hW : Below w.heap.size w W) (hY : Byt W q (n0 + (n1 + 32)) d (octR xs0 xs1 xs2 k xs5)) => kshared_any p3 q n3 c3 (n0 + (n1 + 32)) d xs3 _ W (h3.below hW) (by omega) hY (by omega) (HK.out W hW))
  have HRS := hidden (fun (q : Option Addr) (d : Nat) W (hW : Below w.heap.size w W) (hY : Byt W q (n0 + (n1 + 32)) d (octR xs0 xs1 xs2 k xs5)) => rkshared_any p3 q n3 c3 (n0 + (n1 + 32)) d xs3 _ W (h3.below hW) (by omega) hY (by omega))
  generalize octR xs0 xs1 xs2 k xs5 = O at *
  have HSL := Is.mk (show (shaR xs3 O).length = 32 from hmacS_len _ _)
  have HSR := hidden (show ∀ x ∈ shaR xs3 O, 0 ≤ x ∧ x ≤ 255 from hmacS_rng _ _)
  generalize shaR xs3 O = S at *
  obtain ⟨M, hM⟩ : ∃ M, n0 + (n1 + 32) = M := ⟨_, rfl⟩
  rw [hM] at hOl HS HRS
  have HPL := Is.mk hOl
  have HPR := hidden hOr
  have HE1 := hidden (fun W (q1 q2 : Option Addr) (d1 d2 : Nat) (y1 : Byt W q1 M d1 O) (y2 : Byt W q2 M d2 O) => equal_like q1 q2 M d1 M d2 O W y1 y2)
  have HE2 := hidden (fun W (q1 q2 : Option Addr) (d1 d2 : Nat) (y1 : Byt W q1 32 d1 S) (y2 : Byt W q2 32 d2 S) => equal_like q1 q2 32 d1 32 d2 S W y1 y2)
  clear h0 h1 h2 h3 h5 hK hOl hOr HOL HOR hl0 hl1 hk hk1 hM hs HK s0 s1 s2 s3 s5 s01
  go_upto_region 6 with (first
    | (go_at_call 7; (with_reducible refine (HA.out).mono ?_); rintro e w1 ⟨rfl, hb⟩; have HB1 := hidden hb; clear hb)
    | (go_at_call 20; (with_reducible refine (HMD.out _).mono ?_); rintro e w2 ⟨rfl, rfl⟩)
    | fail)
  generalize hw2 : w1.alloc (.cells _ 45) = w2
  have hc0 : w2.cell? ⟨w1.heap.size, 0, none⟩ = some (.int .i64 k) := by subst hw2; rw [World.cell?_alloc_at _ _ _ _ rfl]; rfl
  have hc1 : w2.cell? ⟨w1.heap.size, 1, none⟩ = some (.slice p5 n5 c5) := by subst hw2; rw [World.cell?_alloc_at _ _ _ _ rfl]; rfl
  have hb2 : Below w.heap.size w w2 := by rw [← hw2]; exact HB1.out.alloc HB1.out.size _
  have HB2 := hidden hb2
  have HC0 := hidden (fun W (hW : Below w2.heap.size w2 W) => cell_below hW _ _ hc0)
  have HC1 := hidden (fun W (hW : Below w2.heap.size w2 W) => cell_below hW _ _ hc1)
  clear hw2 hb2 HA HMD HB1
  go_wp2_with (first
    | (go_at_call 21; (with_reducible refine (HO.out _ HB2.out).mono ?_); rintro e w3 ⟨v3, rfl, ho3, hb3⟩; obtain ⟨q3, d3, rfl, hy3⟩ := ho3.bytN rfl HPL.eq HPR.out; have HB3 := hidden (HB2.out.trans (hb3.mono HB2.out.size)); have H3 := hidden hy3; have hd0 := HC0.out w3 hb3; have hd1 := HC1.out w3 hb3; clear ho3 hb3 hy3 HO)
    | (go_at_call 22; (with_reducible refine (HRO.out _ HB3.out).mono ?_); rintro e w4 ⟨v4, rfl, ho4, hb4⟩; obtain ⟨q4, d4, rfl, hy4⟩ := ho4.bytN rfl HPL.eq HPR.out; have HB4 := hidden (HB3.out.trans (hb4.mono HB3.out.size)); have H34 := hidden (H3.out.below hb4); have H4 := hidden hy4; clear ho4 hb4 hy4 HRO)
    | (go_at_call 12; (with_reducible refine (HE1.out _ _ _ _ _ H34.out H4.out).mono ?_); rintro e w5 ⟨rfl, hb5⟩; have HB5 := hidden (HB4.out.trans (hb5.mono HB4.out.size)); have H35 := hidden (H34.out.below hb5); clear hb5)
    | (go_at_call 23; (with_reducible refine (HS.out _ _ _ HB5.out H35.out).mono ?_); rintro e w6 ⟨v6, rfl, ho6, hb6⟩; obtain ⟨q6, d6, rfl, hy6⟩ := ho6.bytN rfl HSL.eq HSR.out; have HB6 := hidden (HB5.out.trans (hb6.mono HB5.out.size)); have H36 := hidden (H35.out.below hb6); have H6 := hidden hy6; clear ho6 hb6 hy6 HS)
    | (go_at_call 24; (with_reducible refine (HRS.out _ _ _ HB6.out H36.out).mono ?_); rintro e w7 ⟨v7, rfl, ho7, hb7⟩; obtain ⟨q7, d7, rfl, hy7⟩ := ho7.bytN rfl HSL.eq HSR.out; have HB7 := hidden (HB6.out.trans (hb7.mono HB6.out.size)); have H67 := hidden (H6.out.below hb7); have H7 := hidden hy7; clear ho7 hb7 hy7 HRS)
    | (go_at_call 12; (with_reducible refine (HE2.out _ _ _ _ _ H67.out H7.out).mono ?_); rintro e w8 ⟨rfl, hb8⟩; have HB8 := hidden (HB7.out.trans (hb8.mono HB7.out.size)); clear hb8)
    | fail)
  go_ret
  exact ⟨rfl, HB8.out⟩
end Go.Proofs.YtgpigjoonhghhaaDoor
