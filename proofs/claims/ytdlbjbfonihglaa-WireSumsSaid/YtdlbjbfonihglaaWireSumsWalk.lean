/-
  The walk of the law WireSums: bytes with their checksum behind them have the checksum 0, and exchanging two numbers does not change it.
-/
import Derived.Test.YtdlbjbfonihglaaAwake
import Derived.Test.YtdlbjbfonihglaaWPut
import Derived.Test.YtdlbjbfonihglaaRCompare
import Derived.BigRegion
namespace Go.Proofs.Ytdlbjbfonihglaa
open Go.RowKit
set_option linter.unusedVariables false

/-- What the walk needs to know of Checksum and Put. -/
structure FactsC (w : World) (p : Option Addr) (n c : Nat) (S : Int) : Prop where
  c0 : 0 ≤ S ∧ S ≤ 65535
  c1 : ∀ W, Below w.heap.size w W → Calls Try.prog 19 #[.slice p n c] W fun e W' => e = .returned (.int .i64 S) ∧ W = W'
  c2 : ∀ W, Below w.heap.size w W → Calls Try.prog 15 #[.slice p n c, .int .u64 S, .int .i64 2] W fun e W' => ∃ t f, e = .returned (.slice t (n + 2) f) ∧ Below w.heap.size w W' ∧
    Calls Try.prog 19 #[.slice t (n + 2) f] W' fun e V' => e = .returned (.int .i64 0) ∧ W' = V'

theorem factsC (p : Option Addr) (n c : Nat) (xs : List Int) (w : World) (h : Byt w p n c xs) (b0 : n ≤ 140737488351232) (he : n % 2 = 0) : FactsC w p n c (sumR xs) := by
  have l0 := h.cap
  have hl := h.len
  have hS : 0 ≤ sumR xs ∧ sumR xs ≤ 65535 := by unfold sumR fld; split <;> omega
  refine ⟨hS, fun W hb => checksum_any p n c xs W (h.below hb) (by omega), fun W hb => (put_yes p n c xs W (h.below hb) (by omega) (sumR xs) (by omega) 2 (by omega) (by omega)).mono ?_⟩
  rintro e W' ⟨u, rfl, ho, hb2⟩
  obtain ⟨t, f, rfl, hy⟩ := ho.bytN rfl (show (xs ++ be 2 (sumR xs)).length = n + 2 by rw [List.length_append, be_len, hl]) (rng_append h.rng (be_rng 2 (sumR xs)))
  refine ⟨t, f, rfl, hb.trans (hb2.mono hb.size), ?_⟩
  have := checksum_any t (n + 2) f _ W' hy (by omega)
  rw [sumR_zero xs h.rng (by omega)] at this
  exact this

set_option maxHeartbeats 800000 in
theorem wireSums_e0 (p : Option Addr) (n c : Nat) (zi zk : Int) (w : World) (b0 : n ≤ 140737488351232) (he : ((n : Int) % 2 == 1) = false) (hn4 : n < 4) (S : Int) (F : FactsC w p n c S) :
    Calls Try.prog 7 #[.slice p n c, .int .u8 zi, .int .u8 zk] w fun e w' => e = .returned (.bool true) ∧ Below w.heap.size w w' := by
  have C1 := hidden F.c1
  have C2 := hidden F.c2
  have c0 := F.c0
  clear F
  go_enter Try.func7, Try.ntmps7
  go_wp2_with (first
    | (go_at_call 10; refine (awake_any _).mono ?_; rintro e w1 ⟨rfl, hb1⟩; have HB := hidden hb1; clear hb1)
    | (go_at_call 19; (with_reducible refine (C1.out _ HB.out).mono ?_); rintro e w' ⟨rfl, rfl⟩)
    | (go_at_call 15; (with_reducible refine (C2.out _ HB.out).mono ?_); rintro e w2 ⟨t, f, rfl, hb2, d2⟩; have HB2 := hidden hb2; have D2 := hidden d2; clear hb2 d2)
    | (go_at_call 19; (with_reducible refine D2.out.mono ?_); rintro e w' ⟨rfl, rfl⟩))
  go_ret
  exact ⟨rfl, HB2.out⟩

set_option maxHeartbeats 800000 in
theorem wireSums_o0 (b o : Nat) (n c : Nat) (zi zk : Int) (w : World) (b0 : n ≤ 140737488351232) (he : (((n : Int) + 1) % 2 == 1) = true) (hn4 : n < 4) (S : Int) (F : FactsC w (some ⟨b, o + 1, none⟩) n c S) (hc : 1 ≤ c) :
    Calls Try.prog 7 #[.slice (some ⟨b, o, none⟩) (n + 1) (c + 1), .int .u8 zi, .int .u8 zk] w fun e w' => e = .returned (.bool true) ∧ Below w.heap.size w w' := by
  have C1 := hidden F.c1
  have C2 := hidden F.c2
  have c0 := F.c0
  clear F
  go_enter Try.func7, Try.ntmps7
  go_wp2_with (first
    | (go_at_call 10; refine (awake_any _).mono ?_; rintro e w1 ⟨rfl, hb1⟩; have HB := hidden hb1; clear hb1)
    | (go_at_call 19; (with_reducible refine (C1.out _ HB.out).mono ?_); rintro e w' ⟨rfl, rfl⟩)
    | (go_at_call 15; (with_reducible refine (C2.out _ HB.out).mono ?_); rintro e w2 ⟨t, f, rfl, hb2, d2⟩; have HB2 := hidden hb2; have D2 := hidden d2; clear hb2 d2)
    | (go_at_call 19; (with_reducible refine D2.out.mono ?_); rintro e w' ⟨rfl, rfl⟩))
  go_ret
  exact ⟨rfl, HB2.out⟩

set_option maxHeartbeats 800000 in
theorem wireSums_o1 (b o : Nat) (zi zk : Int) (w : World) (S : Int) (F : FactsC w (some ⟨b, o, none⟩) 0 0 S) :
    Calls Try.prog 7 #[.slice (some ⟨b, o, none⟩) 1 1, .int .u8 zi, .int .u8 zk] w fun e w' => e = .returned (.bool true) ∧ Below w.heap.size w w' := by
  have C1 := hidden F.c1
  have C2 := hidden F.c2
  have c0 := F.c0
  clear F
  go_enter Try.func7, Try.ntmps7
  go_wp2_with (first
    | (go_at_call 10; refine (awake_any _).mono ?_; rintro e w1 ⟨rfl, hb1⟩; have HB := hidden hb1; clear hb1)
    | (go_at_call 19; (with_reducible refine (C1.out _ HB.out).mono ?_); rintro e w' ⟨rfl, rfl⟩)
    | (go_at_call 15; (with_reducible refine (C2.out _ HB.out).mono ?_); rintro e w2 ⟨t, f, rfl, hb2, d2⟩; have HB2 := hidden hb2; have D2 := hidden d2; clear hb2 d2)
    | (go_at_call 19; (with_reducible refine D2.out.mono ?_); rintro e w' ⟨rfl, rfl⟩))
  go_ret
  exact ⟨rfl, HB2.out⟩

set_option maxHeartbeats 1600000 in
theorem wireSums_ed (p : Option Addr) (n c : Nat) (xs : List Int) (zi zk : Int) (w : World) (h : Byt w p n c xs) (b0 : n ≤ 140737488351232) (g1 : 0 ≤ zi ∧ zi ≤ 255) (g2 : 0 ≤ zk ∧ zk ≤ 255) (he : ((n : Int) % 2 == 1) = false) (hn4 : 4 ≤ n)
    (hh P Q : Nat) (h1 : (n : Int) / 2 = hh) (h2 : zi % (hh : Int) = P) (h3 : zk % (hh : Int) = Q) (hP : P * 2 + 1 < n) (hQ : Q * 2 + 1 < n) (hpq : P ≠ Q) (F : FactsC w p n c (sumR xs)) :
    Calls Try.prog 7 #[.slice p n c, .int .u8 zi, .int .u8 zk] w fun e w' => e = .returned (.bool true) ∧ Below w.heap.size w w' := by
  have hl := h.len
  have C1 := hidden F.c1
  have C2 := hidden F.c2
  have c0 := F.c0
  have HX := hidden (fun W (hb : Below w.heap.size w W) => h.below hb)
  have HR := hidden h.rng
  have q1 : ([] : List Int).length + n ≤ 140737488355328 := by simp; omega
  have Q1 := hidden q1
  have HSW := hidden (sumR_swap xs (P * 2) (Q * 2) (by omega) (by omega) (by omega) (by omega))
  have HLT := hidden (fun (b o : Nat) (e : p = some (⟨b, o, none⟩ : Addr)) => Byt.lt (e ▸ h) (show 0 < n by omega))
  obtain ⟨S, hS⟩ : ∃ S, sumR xs = S := ⟨_, rfl⟩
  rw [hS] at C1 C2 c0 HSW
  clear F h q1 hS
  obtain ⟨i0, hi, hz0, hz1, hz2⟩ := info_parts Try.infoByte
  go_enter Try.func7, Try.ntmps7
  go_wp2_with (first
    | (go_at_call 10; refine (awake_any _).mono ?_; rintro e w1 ⟨rfl, hb1⟩; have HB := hidden hb1; clear hb1)
    | (go_at_call 19; (with_reducible refine (C1.out _ HB.out).mono ?_); rintro e w' ⟨rfl, rfl⟩)
    | (go_at_call 15; (with_reducible refine (C2.out _ HB.out).mono ?_); rintro e w2 ⟨t, f, rfl, hb2, d2⟩; have HB2 := hidden hb2; have D2 := hidden d2; clear hb2 d2)
    | (go_at_call 19; (with_reducible refine D2.out.mono ?_); rintro e w' ⟨rfl, rfl⟩)
    | (at_builtin; refine wpList_append_byt _ rfl (.const (.slice none 0 0)) (.tmp 28) 22 rfl w.heap.size 5 i0 (.int .u8 0) Try.underlying22 hi hz0 hz1 hz2 rfl _ _ rfl (Own.nil _ w.heap.size 5) _ _ _ _ _ rfl (HX.out _ HB2.out) rfl Q1.out HB2.out.size ?_; intro u w3 hown hg; have HB3 := hidden (HB2.out.grown hg HB2.out.size (nob _)); have HO := hidden hown; clear hg hown))
  have hhp : 1 ≤ hh := by omega
  go_quiet (fail)
  go_wp2
  obtain ⟨g, f', rfl, hgb, hgs, hxc, hxf⟩ := HO.out.at_ (show ([] ++ xs).length = n by simpa using hl) (by omega)
  obtain ⟨b, o, rfl, hbc⟩ := (HX.out _ HB3.out).at_ (by omega)
  have hbg : b < g := by
    have h2 : b < w.heap.size := HLT.out b o rfl
    omega
  generalize hwq : w3.drewN _ = wq
  have cP : wq.cell? ⟨b, o + P * 2, none⟩ = some (.int .u8 (xs.getD (P * 2) 0)) := by rw [← hwq]; exact hbc _ (by omega)
  have cP1 : wq.cell? ⟨b, o + (P * 2 + 1), none⟩ = some (.int .u8 (xs.getD (P * 2 + 1) 0)) := by rw [← hwq]; exact hbc _ (by omega)
  have xP : wq.cell? ⟨g, P * 2, none⟩ = some (.int .u8 (xs.getD (P * 2) 0)) := by rw [← hwq]; exact hxc _ (by omega)
  have xP1 : wq.cell? ⟨g, P * 2 + 1, none⟩ = some (.int .u8 (xs.getD (P * 2 + 1) 0)) := by rw [← hwq]; exact hxc _ (by omega)
  have fP : wq.frozen? ⟨g, P * 2, none⟩ = false := by rw [← hwq]; exact hxf _
  have fP1 : wq.frozen? ⟨g, P * 2 + 1, none⟩ = false := by rw [← hwq]; exact hxf _
  have cQ : wq.cell? ⟨b, o + Q * 2, none⟩ = some (.int .u8 (xs.getD (Q * 2) 0)) := by rw [← hwq]; exact hbc _ (by omega)
  have cQ1 : wq.cell? ⟨b, o + (Q * 2 + 1), none⟩ = some (.int .u8 (xs.getD (Q * 2 + 1) 0)) := by rw [← hwq]; exact hbc _ (by omega)
  have xQ : wq.cell? ⟨g, Q * 2, none⟩ = some (.int .u8 (xs.getD (Q * 2) 0)) := by rw [← hwq]; exact hxc _ (by omega)
  have xQ1 : wq.cell? ⟨g, Q * 2 + 1, none⟩ = some (.int .u8 (xs.getD (Q * 2 + 1) 0)) := by rw [← hwq]; exact hxc _ (by omega)
  have fQ : wq.frozen? ⟨g, Q * 2, none⟩ = false := by rw [← hwq]; exact hxf _
  have fQ1 : wq.frozen? ⟨g, Q * 2 + 1, none⟩ = false := by rw [← hwq]; exact hxf _
  have ho : Own wq w.heap.size 5 (.slice (some ⟨g, 0, none⟩) n f') xs := by rw [← hwq]; exact HO.out
  have hB4 : Below w.heap.size w wq := by rw [← hwq]; exact HB3.out.trans (drew_below ⟨_, rfl⟩)
  have ho4 := (((ho.set hl (P * 2) (xs.getD (Q * 2) 0)).set (by simpa using hl) (P * 2 + 1) (xs.getD (Q * 2 + 1) 0)).set (by simpa using hl) (Q * 2) (xs.getD (P * 2) 0)).set (by simpa using hl) (Q * 2 + 1) (xs.getD (P * 2 + 1) 0)
  have hr4 : ∀ x ∈ ((((xs.set (P * 2) (xs.getD (Q * 2) 0)).set (P * 2 + 1) (xs.getD (Q * 2 + 1) 0)).set (Q * 2) (xs.getD (P * 2) 0)).set (Q * 2 + 1) (xs.getD (P * 2 + 1) 0)), 0 ≤ x ∧ x ≤ 255 :=
    rng_set (rng_set (rng_set (rng_set HR.out _ (rng_getD HR.out _)) _ (rng_getD HR.out _)) _ (rng_getD HR.out _)) _ (rng_getD HR.out _)
  obtain ⟨p4, f4, e4, hy4⟩ := ho4.bytN rfl (show _ = n by simpa using hl) hr4
  injection e4 with e5 e6 e7
  subst e5
  subst e7
  have HK := hidden (fun W (hW : Below _ _ W) => checksum_any _ n f' _ W (hy4.below hW) (by omega))
  rw [HSW.out] at HK
  have HB5 := hidden (((((hB4.setCell (p := ⟨g, P * 2, none⟩) hgb (.int .u8 (xs.getD (Q * 2) 0))).setCell (p := ⟨g, P * 2 + 1, none⟩) hgb (.int .u8 (xs.getD (Q * 2 + 1) 0))).setCell (p := ⟨g, Q * 2, none⟩) hgb (.int .u8 (xs.getD (P * 2) 0))).setCell (p := ⟨g, Q * 2 + 1, none⟩) hgb (.int .u8 (xs.getD (P * 2 + 1) 0))).drew)
  clear hwq hxc hxf hbc hl ho ho4 hr4 hy4 e6 hB4 HSW HR HX HLT
  generalize xs.getD (P * 2) 0 = yP at *
  generalize xs.getD (P * 2 + 1) 0 = yP1 at *
  generalize xs.getD (Q * 2) 0 = yQ at *
  generalize xs.getD (Q * 2 + 1) 0 = yQ1 at *
  go_region
  go_wp2_with (go_at_call 19; (first | (with_reducible refine (HK.out _ ((Below.refl _ _).drew)).mono ?_) | (with_reducible refine (C1.out _ HB5.out).mono ?_)); rintro e w' ⟨rfl, rfl⟩)
  go_ret
  exact ⟨rfl, HB5.out⟩

set_option maxHeartbeats 1600000 in
theorem wireSums_od (b o0 o : Nat) (n c : Nat) (xs : List Int) (zi zk : Int) (w : World) (h : Byt w (some ⟨b, o, none⟩) n c xs) (b0 : n ≤ 140737488351232) (g1 : 0 ≤ zi ∧ zi ≤ 255) (g2 : 0 ≤ zk ∧ zk ≤ 255) (he : (((n : Int) + 1) % 2 == 1) = true) (hn4 : 4 ≤ n)
    (hh P Q : Nat) (h1 : (n : Int) / 2 = hh) (h2 : zi % (hh : Int) = P) (h3 : zk % (hh : Int) = Q) (hP : P * 2 + 1 < n) (hQ : Q * 2 + 1 < n) (hpq : P ≠ Q) (F : FactsC w (some ⟨b, o, none⟩) n c (sumR xs)) (ho0 : o0 + 1 = o) (hc : 1 ≤ c) :
    Calls Try.prog 7 #[.slice (some ⟨b, o0, none⟩) (n + 1) (c + 1), .int .u8 zi, .int .u8 zk] w fun e w' => e = .returned (.bool true) ∧ Below w.heap.size w w' := by
  have hl := h.len
  have C1 := hidden F.c1
  have C2 := hidden F.c2
  have c0 := F.c0
  have HX := hidden (fun W (hb : Below w.heap.size w W) => h.below hb)
  have HR := hidden h.rng
  have q1 : ([] : List Int).length + n ≤ 140737488355328 := by simp; omega
  have Q1 := hidden q1
  have HSW := hidden (sumR_swap xs (P * 2) (Q * 2) (by omega) (by omega) (by omega) (by omega))
  have HLT := hidden (fun (b' o' : Nat) (e : (some ⟨b, o, none⟩ : Option Addr) = some ⟨b', o', none⟩) => Byt.lt (e ▸ h) (show 0 < n by omega))
  obtain ⟨S, hS⟩ : ∃ S, sumR xs = S := ⟨_, rfl⟩
  rw [hS] at C1 C2 c0 HSW
  clear F h q1 hS
  obtain ⟨i0, hi, hz0, hz1, hz2⟩ := info_parts Try.infoByte
  go_enter Try.func7, Try.ntmps7
  go_wp2_with (first
    | (go_at_call 10; refine (awake_any _).mono ?_; rintro e w1 ⟨rfl, hb1⟩; have HB := hidden hb1; clear hb1)
    | (go_at_call 19; (with_reducible refine (C1.out _ HB.out).mono ?_); rintro e w' ⟨rfl, rfl⟩)
    | (go_at_call 15; (with_reducible refine (C2.out _ HB.out).mono ?_); rintro e w2 ⟨t, f, rfl, hb2, d2⟩; have HB2 := hidden hb2; have D2 := hidden d2; clear hb2 d2)
    | (go_at_call 19; (with_reducible refine D2.out.mono ?_); rintro e w' ⟨rfl, rfl⟩)
    | (at_builtin; refine wpList_append_byt _ rfl (.const (.slice none 0 0)) (.tmp 28) 22 rfl w.heap.size 5 i0 (.int .u8 0) Try.underlying22 hi hz0 hz1 hz2 rfl _ _ rfl (Own.nil _ w.heap.size 5) _ _ _ _ _ rfl (HX.out _ HB2.out) rfl Q1.out HB2.out.size ?_; intro u w3 hown hg; have HB3 := hidden (HB2.out.grown hg HB2.out.size (nob _)); have HO := hidden hown; clear hg hown))
  have hhp : 1 ≤ hh := by omega
  go_quiet (fail)
  go_wp2
  obtain ⟨g, f', rfl, hgb, hgs, hxc, hxf⟩ := HO.out.at_ (show ([] ++ xs).length = n by simpa using hl) (by omega)
  have hbc : ∀ i, i < n → w3.cell? ⟨b, o + i, none⟩ = some (.int .u8 (xs.getD i 0)) := by
    obtain ⟨b', o', e, hbc⟩ := (HX.out _ HB3.out).at_ (by omega)
    injection e with e
    injection e with e1 e2
    subst e1
    subst e2
    exact hbc
  have hbg : b < g := by
    have h2 : b < w.heap.size := HLT.out b o rfl
    omega
  generalize hwq : w3.drewN _ = wq
  have cP : wq.cell? ⟨b, o + P * 2, none⟩ = some (.int .u8 (xs.getD (P * 2) 0)) := by rw [← hwq]; exact hbc _ (by omega)
  have cP1 : wq.cell? ⟨b, o + (P * 2 + 1), none⟩ = some (.int .u8 (xs.getD (P * 2 + 1) 0)) := by rw [← hwq]; exact hbc _ (by omega)
  have xP : wq.cell? ⟨g, P * 2, none⟩ = some (.int .u8 (xs.getD (P * 2) 0)) := by rw [← hwq]; exact hxc _ (by omega)
  have xP1 : wq.cell? ⟨g, P * 2 + 1, none⟩ = some (.int .u8 (xs.getD (P * 2 + 1) 0)) := by rw [← hwq]; exact hxc _ (by omega)
  have fP : wq.frozen? ⟨g, P * 2, none⟩ = false := by rw [← hwq]; exact hxf _
  have fP1 : wq.frozen? ⟨g, P * 2 + 1, none⟩ = false := by rw [← hwq]; exact hxf _
  have cQ : wq.cell? ⟨b, o + Q * 2, none⟩ = some (.int .u8 (xs.getD (Q * 2) 0)) := by rw [← hwq]; exact hbc _ (by omega)
  have cQ1 : wq.cell? ⟨b, o + (Q * 2 + 1), none⟩ = some (.int .u8 (xs.getD (Q * 2 + 1) 0)) := by rw [← hwq]; exact hbc _ (by omega)
  have xQ : wq.cell? ⟨g, Q * 2, none⟩ = some (.int .u8 (xs.getD (Q * 2) 0)) := by rw [← hwq]; exact hxc _ (by omega)
  have xQ1 : wq.cell? ⟨g, Q * 2 + 1, none⟩ = some (.int .u8 (xs.getD (Q * 2 + 1) 0)) := by rw [← hwq]; exact hxc _ (by omega)
  have fQ : wq.frozen? ⟨g, Q * 2, none⟩ = false := by rw [← hwq]; exact hxf _
  have fQ1 : wq.frozen? ⟨g, Q * 2 + 1, none⟩ = false := by rw [← hwq]; exact hxf _
  have ho : Own wq w.heap.size 5 (.slice (some ⟨g, 0, none⟩) n f') xs := by rw [← hwq]; exact HO.out
  have hB4 : Below w.heap.size w wq := by rw [← hwq]; exact HB3.out.trans (drew_below ⟨_, rfl⟩)
  have ho4 := (((ho.set hl (P * 2) (xs.getD (Q * 2) 0)).set (by simpa using hl) (P * 2 + 1) (xs.getD (Q * 2 + 1) 0)).set (by simpa using hl) (Q * 2) (xs.getD (P * 2) 0)).set (by simpa using hl) (Q * 2 + 1) (xs.getD (P * 2 + 1) 0)
  have hr4 : ∀ x ∈ ((((xs.set (P * 2) (xs.getD (Q * 2) 0)).set (P * 2 + 1) (xs.getD (Q * 2 + 1) 0)).set (Q * 2) (xs.getD (P * 2) 0)).set (Q * 2 + 1) (xs.getD (P * 2 + 1) 0)), 0 ≤ x ∧ x ≤ 255 :=
    rng_set (rng_set (rng_set (rng_set HR.out _ (rng_getD HR.out _)) _ (rng_getD HR.out _)) _ (rng_getD HR.out _)) _ (rng_getD HR.out _)
  obtain ⟨p4, f4, e4, hy4⟩ := ho4.bytN rfl (show _ = n by simpa using hl) hr4
  injection e4 with e5 e6 e7
  subst e5
  subst e7
  have HK := hidden (fun W (hW : Below _ _ W) => checksum_any _ n f' _ W (hy4.below hW) (by omega))
  rw [HSW.out] at HK
  have HB5 := hidden (((((hB4.setCell (p := ⟨g, P * 2, none⟩) hgb (.int .u8 (xs.getD (Q * 2) 0))).setCell (p := ⟨g, P * 2 + 1, none⟩) hgb (.int .u8 (xs.getD (Q * 2 + 1) 0))).setCell (p := ⟨g, Q * 2, none⟩) hgb (.int .u8 (xs.getD (P * 2) 0))).setCell (p := ⟨g, Q * 2 + 1, none⟩) hgb (.int .u8 (xs.getD (P * 2 + 1) 0))).drew)
  clear hwq hxc hxf hbc hl ho ho4 hr4 hy4 e6 hB4 HSW HR HX HLT
  generalize xs.getD (P * 2) 0 = yP at *
  generalize xs.getD (P * 2 + 1) 0 = yP1 at *
  generalize xs.getD (Q * 2) 0 = yQ at *
  generalize xs.getD (Q * 2 + 1) 0 = yQ1 at *
  go_region
  go_wp2_with (go_at_call 19; (first | (with_reducible refine (HK.out _ ((Below.refl _ _).drew)).mono ?_) | (with_reducible refine (C1.out _ HB5.out).mono ?_)); rintro e w' ⟨rfl, rfl⟩)
  go_ret
  exact ⟨rfl, HB5.out⟩

set_option maxHeartbeats 1600000 in
theorem wireSums_es (p : Option Addr) (n c : Nat) (xs : List Int) (zi zk : Int) (w : World) (h : Byt w p n c xs) (b0 : n ≤ 140737488351232) (g1 : 0 ≤ zi ∧ zi ≤ 255) (g2 : 0 ≤ zk ∧ zk ≤ 255) (he : ((n : Int) % 2 == 1) = false) (hn4 : 4 ≤ n)
    (hh P : Nat) (h1 : (n : Int) / 2 = hh) (h2 : zi % (hh : Int) = P) (h3 : zk % (hh : Int) = P) (hP : P * 2 + 1 < n) (F : FactsC w p n c (sumR xs)) :
    Calls Try.prog 7 #[.slice p n c, .int .u8 zi, .int .u8 zk] w fun e w' => e = .returned (.bool true) ∧ Below w.heap.size w w' := by
  have hl := h.len
  have C1 := hidden F.c1
  have C2 := hidden F.c2
  have c0 := F.c0
  have HX := hidden (fun W (hb : Below w.heap.size w W) => h.below hb)
  have HR := hidden h.rng
  have q1 : ([] : List Int).length + n ≤ 140737488355328 := by simp; omega
  have Q1 := hidden q1
  have HSW := hidden (sumR_swap xs (P * 2) (P * 2) (by omega) (by omega) (by omega) (by omega))
  have HLT := hidden (fun (b o : Nat) (e : p = some (⟨b, o, none⟩ : Addr)) => Byt.lt (e ▸ h) (show 0 < n by omega))
  obtain ⟨S, hS⟩ : ∃ S, sumR xs = S := ⟨_, rfl⟩
  rw [hS] at C1 C2 c0 HSW
  clear F h q1 hS
  obtain ⟨i0, hi, hz0, hz1, hz2⟩ := info_parts Try.infoByte
  go_enter Try.func7, Try.ntmps7
  go_wp2_with (first
    | (go_at_call 10; refine (awake_any _).mono ?_; rintro e w1 ⟨rfl, hb1⟩; have HB := hidden hb1; clear hb1)
    | (go_at_call 19; (with_reducible refine (C1.out _ HB.out).mono ?_); rintro e w' ⟨rfl, rfl⟩)
    | (go_at_call 15; (with_reducible refine (C2.out _ HB.out).mono ?_); rintro e w2 ⟨t, f, rfl, hb2, d2⟩; have HB2 := hidden hb2; have D2 := hidden d2; clear hb2 d2)
    | (go_at_call 19; (with_reducible refine D2.out.mono ?_); rintro e w' ⟨rfl, rfl⟩)
    | (at_builtin; refine wpList_append_byt _ rfl (.const (.slice none 0 0)) (.tmp 28) 22 rfl w.heap.size 5 i0 (.int .u8 0) Try.underlying22 hi hz0 hz1 hz2 rfl _ _ rfl (Own.nil _ w.heap.size 5) _ _ _ _ _ rfl (HX.out _ HB2.out) rfl Q1.out HB2.out.size ?_; intro u w3 hown hg; have HB3 := hidden (HB2.out.grown hg HB2.out.size (nob _)); have HO := hidden hown; clear hg hown))
  have hhp : 1 ≤ hh := by omega
  go_quiet (fail)
  go_wp2
  obtain ⟨g, f', rfl, hgb, hgs, hxc, hxf⟩ := HO.out.at_ (show ([] ++ xs).length = n by simpa using hl) (by omega)
  obtain ⟨b, o, rfl, hbc⟩ := (HX.out _ HB3.out).at_ (by omega)
  have hbg : b < g := by
    have h2 : b < w.heap.size := HLT.out b o rfl
    omega
  generalize hwq : w3.drewN _ = wq
  have cP : wq.cell? ⟨b, o + P * 2, none⟩ = some (.int .u8 (xs.getD (P * 2) 0)) := by rw [← hwq]; exact hbc _ (by omega)
  have cP1 : wq.cell? ⟨b, o + (P * 2 + 1), none⟩ = some (.int .u8 (xs.getD (P * 2 + 1) 0)) := by rw [← hwq]; exact hbc _ (by omega)
  have xP : wq.cell? ⟨g, P * 2, none⟩ = some (.int .u8 (xs.getD (P * 2) 0)) := by rw [← hwq]; exact hxc _ (by omega)
  have xP1 : wq.cell? ⟨g, P * 2 + 1, none⟩ = some (.int .u8 (xs.getD (P * 2 + 1) 0)) := by rw [← hwq]; exact hxc _ (by omega)
  have fP : wq.frozen? ⟨g, P * 2, none⟩ = false := by rw [← hwq]; exact hxf _
  have fP1 : wq.frozen? ⟨g, P * 2 + 1, none⟩ = false := by rw [← hwq]; exact hxf _
  have ho : Own wq w.heap.size 5 (.slice (some ⟨g, 0, none⟩) n f') xs := by rw [← hwq]; exact HO.out
  have hB4 : Below w.heap.size w wq := by rw [← hwq]; exact HB3.out.trans (drew_below ⟨_, rfl⟩)
  have ho4 := (((ho.set hl (P * 2) (xs.getD (P * 2) 0)).set (by simpa using hl) (P * 2 + 1) (xs.getD (P * 2 + 1) 0)).set (by simpa using hl) (P * 2) (xs.getD (P * 2) 0)).set (by simpa using hl) (P * 2 + 1) (xs.getD (P * 2 + 1) 0)
  have hr4 : ∀ x ∈ ((((xs.set (P * 2) (xs.getD (P * 2) 0)).set (P * 2 + 1) (xs.getD (P * 2 + 1) 0)).set (P * 2) (xs.getD (P * 2) 0)).set (P * 2 + 1) (xs.getD (P * 2 + 1) 0)), 0 ≤ x ∧ x ≤ 255 :=
    rng_set (rng_set (rng_set (rng_set HR.out _ (rng_getD HR.out _)) _ (rng_getD HR.out _)) _ (rng_getD HR.out _)) _ (rng_getD HR.out _)
  obtain ⟨p4, f4, e4, hy4⟩ := ho4.bytN rfl (show _ = n by simpa using hl) hr4
  injection e4 with e5 e6 e7
  subst e5
  subst e7
  have HK := hidden (fun W (hW : Below _ _ W) => checksum_any _ n f' _ W (hy4.below hW) (by omega))
  rw [HSW.out] at HK
  have HB5 := hidden (((((hB4.setCell (p := ⟨g, P * 2, none⟩) hgb (.int .u8 (xs.getD (P * 2) 0))).setCell (p := ⟨g, P * 2 + 1, none⟩) hgb (.int .u8 (xs.getD (P * 2 + 1) 0))).setCell (p := ⟨g, P * 2, none⟩) hgb (.int .u8 (xs.getD (P * 2) 0))).setCell (p := ⟨g, P * 2 + 1, none⟩) hgb (.int .u8 (xs.getD (P * 2 + 1) 0))).drew)
  clear hwq hxc hxf hbc hl ho ho4 hr4 hy4 e6 hB4 HSW HR HX HLT
  generalize xs.getD (P * 2) 0 = yP at *
  generalize xs.getD (P * 2 + 1) 0 = yP1 at *
  go_region
  go_wp2_with (go_at_call 19; (first | (with_reducible refine (HK.out _ ((Below.refl _ _).drew)).mono ?_) | (with_reducible refine (C1.out _ HB5.out).mono ?_)); rintro e w' ⟨rfl, rfl⟩)
  go_ret
  exact ⟨rfl, HB5.out⟩

set_option maxHeartbeats 1600000 in
theorem wireSums_os (b o0 o : Nat) (n c : Nat) (xs : List Int) (zi zk : Int) (w : World) (h : Byt w (some ⟨b, o, none⟩) n c xs) (b0 : n ≤ 140737488351232) (g1 : 0 ≤ zi ∧ zi ≤ 255) (g2 : 0 ≤ zk ∧ zk ≤ 255) (he : (((n : Int) + 1) % 2 == 1) = true) (hn4 : 4 ≤ n)
    (hh P : Nat) (h1 : (n : Int) / 2 = hh) (h2 : zi % (hh : Int) = P) (h3 : zk % (hh : Int) = P) (hP : P * 2 + 1 < n) (F : FactsC w (some ⟨b, o, none⟩) n c (sumR xs)) (ho0 : o0 + 1 = o) (hc : 1 ≤ c) :
    Calls Try.prog 7 #[.slice (some ⟨b, o0, none⟩) (n + 1) (c + 1), .int .u8 zi, .int .u8 zk] w fun e w' => e = .returned (.bool true) ∧ Below w.heap.size w w' := by
  have hl := h.len
  have C1 := hidden F.c1
  have C2 := hidden F.c2
  have c0 := F.c0
  have HX := hidden (fun W (hb : Below w.heap.size w W) => h.below hb)
  have HR := hidden h.rng
  have q1 : ([] : List Int).length + n ≤ 140737488355328 := by simp; omega
  have Q1 := hidden q1
  have HSW := hidden (sumR_swap xs (P * 2) (P * 2) (by omega) (by omega) (by omega) (by omega))
  have HLT := hidden (fun (b' o' : Nat) (e : (some ⟨b, o, none⟩ : Option Addr) = some ⟨b', o', none⟩) => Byt.lt (e ▸ h) (show 0 < n by omega))
  obtain ⟨S, hS⟩ : ∃ S, sumR xs = S := ⟨_, rfl⟩
  rw [hS] at C1 C2 c0 HSW
  clear F h q1 hS
  obtain ⟨i0, hi, hz0, hz1, hz2⟩ := info_parts Try.infoByte
  go_enter Try.func7, Try.ntmps7
  go_wp2_with (first
    | (go_at_call 10; refine (awake_any _).mono ?_; rintro e w1 ⟨rfl, hb1⟩; have HB := hidden hb1; clear hb1)
    | (go_at_call 19; (with_reducible refine (C1.out _ HB.out).mono ?_); rintro e w' ⟨rfl, rfl⟩)
    | (go_at_call 15; (with_reducible refine (C2.out _ HB.out).mono ?_); rintro e w2 ⟨t, f, rfl, hb2, d2⟩; have HB2 := hidden hb2; have D2 := hidden d2; clear hb2 d2)
    | (go_at_call 19; (with_reducible refine D2.out.mono ?_); rintro e w' ⟨rfl, rfl⟩)
    | (at_builtin; refine wpList_append_byt _ rfl (.const (.slice none 0 0)) (.tmp 28) 22 rfl w.heap.size 5 i0 (.int .u8 0) Try.underlying22 hi hz0 hz1 hz2 rfl _ _ rfl (Own.nil _ w.heap.size 5) _ _ _ _ _ rfl (HX.out _ HB2.out) rfl Q1.out HB2.out.size ?_; intro u w3 hown hg; have HB3 := hidden (HB2.out.grown hg HB2.out.size (nob _)); have HO := hidden hown; clear hg hown))
  have hhp : 1 ≤ hh := by omega
  go_quiet (fail)
  go_wp2
  obtain ⟨g, f', rfl, hgb, hgs, hxc, hxf⟩ := HO.out.at_ (show ([] ++ xs).length = n by simpa using hl) (by omega)
  have hbc : ∀ i, i < n → w3.cell? ⟨b, o + i, none⟩ = some (.int .u8 (xs.getD i 0)) := by
    obtain ⟨b', o', e, hbc⟩ := (HX.out _ HB3.out).at_ (by omega)
    injection e with e
    injection e with e1 e2
    subst e1
    subst e2
    exact hbc
  have hbg : b < g := by
    have h2 : b < w.heap.size := HLT.out b o rfl
    omega
  generalize hwq : w3.drewN _ = wq
  have cP : wq.cell? ⟨b, o + P * 2, none⟩ = some (.int .u8 (xs.getD (P * 2) 0)) := by rw [← hwq]; exact hbc _ (by omega)
  have cP1 : wq.cell? ⟨b, o + (P * 2 + 1), none⟩ = some (.int .u8 (xs.getD (P * 2 + 1) 0)) := by rw [← hwq]; exact hbc _ (by omega)
  have xP : wq.cell? ⟨g, P * 2, none⟩ = some (.int .u8 (xs.getD (P * 2) 0)) := by rw [← hwq]; exact hxc _ (by omega)
  have xP1 : wq.cell? ⟨g, P * 2 + 1, none⟩ = some (.int .u8 (xs.getD (P * 2 + 1) 0)) := by rw [← hwq]; exact hxc _ (by omega)
  have fP : wq.frozen? ⟨g, P * 2, none⟩ = false := by rw [← hwq]; exact hxf _
  have fP1 : wq.frozen? ⟨g, P * 2 + 1, none⟩ = false := by rw [← hwq]; exact hxf _
  have ho : Own wq w.heap.size 5 (.slice (some ⟨g, 0, none⟩) n f') xs := by rw [← hwq]; exact HO.out
  have hB4 : Below w.heap.size w wq := by rw [← hwq]; exact HB3.out.trans (drew_below ⟨_, rfl⟩)
  have ho4 := (((ho.set hl (P * 2) (xs.getD (P * 2) 0)).set (by simpa using hl) (P * 2 + 1) (xs.getD (P * 2 + 1) 0)).set (by simpa using hl) (P * 2) (xs.getD (P * 2) 0)).set (by simpa using hl) (P * 2 + 1) (xs.getD (P * 2 + 1) 0)
  have hr4 : ∀ x ∈ ((((xs.set (P * 2) (xs.getD (P * 2) 0)).set (P * 2 + 1) (xs.getD (P * 2 + 1) 0)).set (P * 2) (xs.getD (P * 2) 0)).set (P * 2 + 1) (xs.getD (P * 2 + 1) 0)), 0 ≤ x ∧ x ≤ 255 :=
    rng_set (rng_set (rng_set (rng_set HR.out _ (rng_getD HR.out _)) _ (rng_getD HR.out _)) _ (rng_getD HR.out _)) _ (rng_getD HR.out _)
  obtain ⟨p4, f4, e4, hy4⟩ := ho4.bytN rfl (show _ = n by simpa using hl) hr4
  injection e4 with e5 e6 e7
  subst e5
  subst e7
  have HK := hidden (fun W (hW : Below _ _ W) => checksum_any _ n f' _ W (hy4.below hW) (by omega))
  rw [HSW.out] at HK
  have HB5 := hidden (((((hB4.setCell (p := ⟨g, P * 2, none⟩) hgb (.int .u8 (xs.getD (P * 2) 0))).setCell (p := ⟨g, P * 2 + 1, none⟩) hgb (.int .u8 (xs.getD (P * 2 + 1) 0))).setCell (p := ⟨g, P * 2, none⟩) hgb (.int .u8 (xs.getD (P * 2) 0))).setCell (p := ⟨g, P * 2 + 1, none⟩) hgb (.int .u8 (xs.getD (P * 2 + 1) 0))).drew)
  clear hwq hxc hxf hbc hl ho ho4 hr4 hy4 e6 hB4 HSW HR HX HLT
  generalize xs.getD (P * 2) 0 = yP at *
  generalize xs.getD (P * 2 + 1) 0 = yP1 at *
  go_region
  go_wp2_with (go_at_call 19; (first | (with_reducible refine (HK.out _ ((Below.refl _ _).drew)).mono ?_) | (with_reducible refine (C1.out _ HB5.out).mono ?_)); rintro e w' ⟨rfl, rfl⟩)
  go_ret
  exact ⟨rfl, HB5.out⟩

/-- The two places that are exchanged. -/
theorem places (n : Nat) (z : Int) (hz : 0 ≤ z) (hn : 4 ≤ n) (he : n % 2 = 0) : ∃ hh P : Nat, (n : Int) / 2 = hh ∧ z % (hh : Int) = P ∧ P * 2 + 1 < n := by
  have h1 := Int.emod_nonneg z (show ((n / 2 : Nat) : Int) ≠ 0 by omega)
  have h2 := Int.emod_lt_of_pos z (show (0 : Int) < ((n / 2 : Nat) : Int) by omega)
  obtain ⟨P, hP⟩ := Int.eq_ofNat_of_zero_le h1
  exact ⟨n / 2, P, by omega, hP, by omega⟩

theorem wireSums_walk (p : Option Addr) (n c : Nat) (xs : List Int) (zi zk : Int) (w : World) (h : Byt w p n c xs) (b0 : c ≤ 140737488351232) (g1 : 0 ≤ zi ∧ zi ≤ 255) (g2 : 0 ≤ zk ∧ zk ≤ 255) :
    Calls Try.prog 7 #[.slice p n c, .int .u8 zi, .int .u8 zk] w fun e w' => e = .returned (.bool true) ∧ Below w.heap.size w w' := by
  have l0 := h.cap
  by_cases he : n % 2 = 0
  · have he' : ((n : Int) % 2 == 1) = false := by simp; omega
    have F := factsC p n c xs w h (by omega) he
    by_cases h4 : n < 4
    · exact wireSums_e0 p n c zi zk w (by omega) he' h4 _ F
    · obtain ⟨hh, P, e1, e2, e3⟩ := places n zi g1.1 (by omega) he
      obtain ⟨hh', Q, e4, e5, e6⟩ := places n zk g2.1 (by omega) he
      obtain rfl : hh' = hh := by omega
      by_cases hpq : P = Q
      · subst hpq
        exact wireSums_es p n c xs zi zk w h (by omega) g1 g2 he' (by omega) hh' P e1 e2 e5 e3 F
      · exact wireSums_ed p n c xs zi zk w h (by omega) g1 g2 he' (by omega) hh' P Q e1 e2 e5 e3 e6 hpq F
  · obtain ⟨n, rfl⟩ : ∃ m, n = m + 1 := ⟨n - 1, by omega⟩
    obtain ⟨c, rfl⟩ : ∃ m, c = m + 1 := ⟨c - 1, by omega⟩
    have he2 : n % 2 = 0 := by omega
    have he' : (((n : Int) + 1) % 2 == 1) = true := by simp; omega
    obtain ⟨b, o, rfl, _⟩ := h.at_ (by omega)
    have hp := h.part 1 (n + 1) (by omega) (by omega)
    rw [Nat.add_sub_cancel, Nat.add_sub_cancel] at hp
    by_cases hc : c = 0
    · subst hc
      obtain rfl : n = 0 := by omega
      rw [if_pos rfl] at hp
      exact wireSums_o1 b o zi zk w _ (factsC _ _ _ _ w hp (by omega) he2)
    · rw [if_neg (by omega)] at hp
      have e0 : (some (⟨b, o, none⟩ : Addr)).map (fun x => x.add 1) = some ⟨b, o + 1, none⟩ := by simp [Addr.add]
      rw [e0] at hp
      have F := factsC _ _ _ _ w hp (by omega) he2
      by_cases h4 : n < 4
      · exact wireSums_o0 b o n c zi zk w (by omega) he' h4 _ F (by omega)
      · obtain ⟨hh, P, e1, e2, e3⟩ := places n zi g1.1 (by omega) he2
        obtain ⟨hh', Q, e4, e5, e6⟩ := places n zk g2.1 (by omega) he2
        obtain rfl : hh' = hh := by omega
        by_cases hpq : P = Q
        · subst hpq
          exact wireSums_os b o (o + 1) n c _ zi zk w hp (by omega) g1 g2 he' (by omega) hh' P e1 e2 e5 e3 F rfl (by omega)
        · exact wireSums_od b o (o + 1) n c _ zi zk w hp (by omega) g1 g2 he' (by omega) hh' P Q e1 e2 e5 e3 e6 hpq F rfl (by omega)
end Go.Proofs.Ytdlbjbfonihglaa
