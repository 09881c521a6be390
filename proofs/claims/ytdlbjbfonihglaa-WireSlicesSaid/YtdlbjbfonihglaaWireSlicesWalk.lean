/-
  The walk of the law WireSlices: the two parts of bytes are the bytes, and their numbers make the number of the whole.
-/
import Derived.Test.YtdlbjbfonihglaaAwake
import Derived.Test.YtdlbjbfonihglaaWSlice
import Derived.Test.YtdlbjbfonihglaaWEqual
namespace Go.Proofs.Ytdlbjbfonihglaa
open Go.RowKit
set_option linter.unusedVariables false

/-- What the walk needs to know of Slice, Number and Equal. -/
structure FactsS (w : World) (p : Option Addr) (n c : Nat) (xs ys zs : List Int) (a m : Nat) (d P Q V : Int) : Prop where
  s1 : ∀ W, Below w.heap.size w W → Calls Try.prog 17 #[.slice p n c, .int .i64 0, .int .i64 a] W fun e W' => ∃ t f, e = .returned (.tuple #[.slice t a f, .bool true]) ∧ Byt W' t a f ys ∧ Below w.heap.size w W'
  s2 : ∀ W, Below w.heap.size w W → Calls Try.prog 17 #[.slice p n c, .int .i64 a, .int .i64 d] W fun e W' => ∃ t f, e = .returned (.tuple #[.slice t m f, .bool true]) ∧ Byt W' t m f zs ∧ Below W.heap.size W W'
  s3 : ys ++ zs = xs
  s4 : xs.length = n
  s0 : ys.length = a
  s5 : ∀ x ∈ xs, 0 ≤ x ∧ x ≤ 255
  s6 : ∀ W, Below w.heap.size w W → ∀ t f, Byt W t n f xs → Calls Try.prog 21 #[.slice t n f, .slice p n c] W fun e W' => e = .returned (.bool true) ∧ W = W'
  s7 : 2 ≤ n → n ≤ 8 → 0 < a → 0 < m → (∀ W, Below w.heap.size w W → Calls Try.prog 12 #[.slice p n c, .int .i64 0, .int .i64 n] W fun e W' => e = .returned (.tuple #[.int .u64 V, .bool true]) ∧ W = W') ∧
    (∀ W, Below w.heap.size w W → Calls Try.prog 12 #[.slice p n c, .int .i64 0, .int .i64 a] W fun e W' => e = .returned (.tuple #[.int .u64 P, .bool true]) ∧ W = W') ∧
    (∀ W, Below w.heap.size w W → Calls Try.prog 12 #[.slice p n c, .int .i64 a, .int .i64 d] W fun e W' => e = .returned (.tuple #[.int .u64 Q, .bool true]) ∧ W = W') ∧
    0 ≤ P ∧ P < 256 ^ a ∧ 0 ≤ Q ∧ Q < 256 ^ m ∧ V = P * 256 ^ m + Q

theorem factsS (p : Option Addr) (n c : Nat) (xs : List Int) (w : World) (h : Byt w p n c xs) (b0 : c ≤ 140737488351232) (a m : Nat) (hm : a + m = n) :
    FactsS w p n c xs (xs.take a) (xs.drop a) a m m (val (xs.take a)) (val (xs.drop a)) (val xs) := by
  have l0 := h.cap
  have hl := h.len
  refine ⟨fun W hb => (slice_any p n c xs W (h.below hb) (by omega) 0 a (by omega) (by omega)).mono ?_, fun W hb => (slice_any p n c xs W (h.below hb) (by omega) a m (by omega) (by omega)).mono ?_, List.take_append_drop _ _, hl, by simp; omega, h.rng, fun W hb t f hy => ?_, fun g1 g2 g3 g4 => ⟨fun W hb => ?_, fun W hb => ?_, fun W hb => ?_, ?_⟩⟩
  · rintro e W' ⟨t, k, f, rfl, hy, hb2⟩
    rw [pieceR, if_pos (by omega)] at hy ⊢
    simp only [Int.toNat_natCast, Int.toNat_zero, List.drop_zero] at hy ⊢
    obtain rfl : k = a := by have := hy.len; simp at this; omega
    exact ⟨t, f, rfl, hy, hb.trans (hb2.mono hb.size)⟩
  · rintro e W' ⟨t, k, f, rfl, hy, hb2⟩
    rw [pieceR, if_pos (by omega)] at hy ⊢
    simp only [Int.toNat_natCast] at hy ⊢
    rw [List.take_of_length_le (by simp; omega)] at hy
    obtain rfl : k = m := by have := hy.len; simp at this; omega
    exact ⟨t, f, rfl, hy, hb2⟩
  · have := equal_any t p n f n c xs xs W hy (h.below hb)
    rw [decide_eq_true rfl] at this
    exact this
  · have := number_any p n c xs W (h.below hb) 0 n (by omega) (by omega)
    rw [numR, if_pos (by omega)] at this
    simp only [Int.toNat_natCast, Int.toNat_zero, List.drop_zero] at this
    rw [List.take_of_length_le (by omega)] at this
    exact this
  · have := number_any p n c xs W (h.below hb) 0 a (by omega) (by omega)
    rw [numR, if_pos (by omega)] at this
    simpa using this
  · have := number_any p n c xs W (h.below hb) a m (by omega) (by omega)
    rw [numR, if_pos (by omega)] at this
    simp only [Int.toNat_natCast] at this
    rw [List.take_of_length_le (by simp; omega)] at this
    exact this
  · have h1 := val_bd (xs.take a) (rng_take h.rng a)
    have h2 := val_bd (xs.drop a) (rng_drop h.rng a)
    have h3 := val_append (xs.take a) (xs.drop a)
    rw [List.take_append_drop] at h3
    rw [show (xs.take a).length = a by simp; omega] at h1
    rw [show (xs.drop a).length = m by simp; omega] at h2 h3
    exact ⟨h1.1, h1.2, h2.1, h2.2, h3⟩

set_option maxHeartbeats 800000 in
theorem wireSlices_q1 (p : Option Addr) (n c : Nat) (xs ys zs : List Int) (z : Int) (w : World) (b0 : n ≤ 140737488351232) (g1 : 0 ≤ z ∧ z ≤ 255) (a m : Nat) (ha : z % ((n : Int) + 1) = a) (d P Q V : Int) (hd : (n : Int) - a = d) (hm : a + m = n) (hq : n < 2) (F : FactsS w p n c xs ys zs a m d P Q V) :
    Calls Try.prog 8 #[.slice p n c, .int .u8 z] w fun e w' => e = .returned (.bool true) ∧ Below w.heap.size w w' := by
  have S1 := hidden F.s1
  have S2 := hidden F.s2
  have S3 := hidden F.s3
  have S4 := hidden F.s4
  have S5 := hidden F.s5
  have S6 := hidden F.s6
  have q1 : ([] : List Int).length + a ≤ 140737488355328 := by simp; omega
  have q2 : ys.length + m ≤ 140737488355328 := by rw [F.s0]; omega
  have Q1 := hidden q1
  have Q2 := hidden q2
  clear q1 q2 F
  obtain ⟨i0, hi, hz0, hz1, hz2⟩ := info_parts Try.infoByte
  have han : a ≤ n := by omega
  clear hm
  go_enter Try.func8, Try.ntmps8
  go_wp2_with (first
    | (go_at_call 10; refine (awake_any _).mono ?_; rintro e w1 ⟨rfl, hb1⟩; have HB := hidden hb1; clear hb1)
    | (go_at_call 17; (with_reducible refine (S1.out _ HB.out).mono ?_); rintro e w2 ⟨t, f, rfl, hy, hb2⟩; have HY := hidden hy; have HB2 := hidden hb2; clear hy hb2)
    | (go_at_call 17; (with_reducible refine (S2.out _ HB2.out).mono ?_); rintro e w3 ⟨t', f', rfl, hy, hb3⟩; have HZ := hidden hy; have HB3 := hidden (HB2.out.trans (hb3.mono HB2.out.size)); have HY2 := hidden (HY.out.below hb3); clear hy hb3)
    | (at_builtin; refine wpList_append_byt _ rfl (.const (.slice none 0 0)) (.tmp 47) 22 rfl w.heap.size 5 i0 (.int .u8 0) Try.underlying22 hi hz0 hz1 hz2 rfl _ _ rfl (Own.nil _ w.heap.size 5) _ _ _ _ _ rfl HY2.out rfl Q1.out HB3.out.size ?_; intro u w4 hown hg; have hb4 := (Below.refl w3.heap.size w3).grown hg (Nat.le_refl _) (nob _); have HZ2 := hidden (HZ.out.below hb4); have HB4 := hidden (HB3.out.trans (hb4.mono HB3.out.size)); clear hg hb4)
    | (at_builtin; refine wpList_append_byt _ rfl (.tmp 48) (.tmp 49) 22 rfl w.heap.size 5 i0 (.int .u8 0) Try.underlying22 hi hz0 hz1 hz2 rfl _ _ rfl hown _ _ _ _ _ rfl HZ2.out rfl Q2.out HB4.out.size ?_; intro u' w5 hown' hg'; have HB5 := hidden (HB4.out.grown hg' HB4.out.size (fun g hg => (hown.lt g hg).1)); clear hg'; obtain ⟨s, l, rfl, hby⟩ := hown'.bytN S3.out S4.out S5.out; clear hown')
    | (go_at_call 21; (with_reducible refine (S6.out _ HB5.out _ _ hby).mono ?_); rintro e w' ⟨rfl, rfl⟩))
  go_ret
  exact ⟨rfl, HB5.out⟩

set_option maxHeartbeats 800000 in
theorem wireSlices_q2 (p : Option Addr) (n c : Nat) (xs ys zs : List Int) (z : Int) (w : World) (b0 : n ≤ 140737488351232) (g1 : 0 ≤ z ∧ z ≤ 255) (a m : Nat) (ha : z % ((n : Int) + 1) = a) (d P Q V : Int) (hd : (n : Int) - a = d) (hm : a + m = n) (hq2 : 2 ≤ n) (hq : 8 < n) (F : FactsS w p n c xs ys zs a m d P Q V) :
    Calls Try.prog 8 #[.slice p n c, .int .u8 z] w fun e w' => e = .returned (.bool true) ∧ Below w.heap.size w w' := by
  have S1 := hidden F.s1
  have S2 := hidden F.s2
  have S3 := hidden F.s3
  have S4 := hidden F.s4
  have S5 := hidden F.s5
  have S6 := hidden F.s6
  have q1 : ([] : List Int).length + a ≤ 140737488355328 := by simp; omega
  have q2 : ys.length + m ≤ 140737488355328 := by rw [F.s0]; omega
  have Q1 := hidden q1
  have Q2 := hidden q2
  clear q1 q2 F
  obtain ⟨i0, hi, hz0, hz1, hz2⟩ := info_parts Try.infoByte
  have han : a ≤ n := by omega
  clear hm
  go_enter Try.func8, Try.ntmps8
  go_wp2_with (first
    | (go_at_call 10; refine (awake_any _).mono ?_; rintro e w1 ⟨rfl, hb1⟩; have HB := hidden hb1; clear hb1)
    | (go_at_call 17; (with_reducible refine (S1.out _ HB.out).mono ?_); rintro e w2 ⟨t, f, rfl, hy, hb2⟩; have HY := hidden hy; have HB2 := hidden hb2; clear hy hb2)
    | (go_at_call 17; (with_reducible refine (S2.out _ HB2.out).mono ?_); rintro e w3 ⟨t', f', rfl, hy, hb3⟩; have HZ := hidden hy; have HB3 := hidden (HB2.out.trans (hb3.mono HB2.out.size)); have HY2 := hidden (HY.out.below hb3); clear hy hb3)
    | (at_builtin; refine wpList_append_byt _ rfl (.const (.slice none 0 0)) (.tmp 47) 22 rfl w.heap.size 5 i0 (.int .u8 0) Try.underlying22 hi hz0 hz1 hz2 rfl _ _ rfl (Own.nil _ w.heap.size 5) _ _ _ _ _ rfl HY2.out rfl Q1.out HB3.out.size ?_; intro u w4 hown hg; have hb4 := (Below.refl w3.heap.size w3).grown hg (Nat.le_refl _) (nob _); have HZ2 := hidden (HZ.out.below hb4); have HB4 := hidden (HB3.out.trans (hb4.mono HB3.out.size)); clear hg hb4)
    | (at_builtin; refine wpList_append_byt _ rfl (.tmp 48) (.tmp 49) 22 rfl w.heap.size 5 i0 (.int .u8 0) Try.underlying22 hi hz0 hz1 hz2 rfl _ _ rfl hown _ _ _ _ _ rfl HZ2.out rfl Q2.out HB4.out.size ?_; intro u' w5 hown' hg'; have HB5 := hidden (HB4.out.grown hg' HB4.out.size (fun g hg => (hown.lt g hg).1)); clear hg'; obtain ⟨s, l, rfl, hby⟩ := hown'.bytN S3.out S4.out S5.out; clear hown')
    | (go_at_call 21; (with_reducible refine (S6.out _ HB5.out _ _ hby).mono ?_); rintro e w' ⟨rfl, rfl⟩))
  go_ret
  exact ⟨rfl, HB5.out⟩

set_option maxHeartbeats 800000 in
theorem wireSlices_q3 (p : Option Addr) (n c : Nat) (xs ys zs : List Int) (z : Int) (w : World) (b0 : n ≤ 140737488351232) (g1 : 0 ≤ z ∧ z ≤ 255) (a m : Nat) (ha : z % ((n : Int) + 1) = a) (d P Q V : Int) (hd : (n : Int) - a = d) (hm : a + m = n) (hq2 : 2 ≤ n) (hq3 : n ≤ 8) (hq : ((a : Int) == 0) = true) (hq5 : a = 0 ∨ a = 0) (F : FactsS w p n c xs ys zs a m d P Q V) :
    Calls Try.prog 8 #[.slice p n c, .int .u8 z] w fun e w' => e = .returned (.bool true) ∧ Below w.heap.size w w' := by
  have S1 := hidden F.s1
  have S2 := hidden F.s2
  have S3 := hidden F.s3
  have S4 := hidden F.s4
  have S5 := hidden F.s5
  have S6 := hidden F.s6
  have q1 : ([] : List Int).length + a ≤ 140737488355328 := by simp; omega
  have q2 : ys.length + m ≤ 140737488355328 := by rw [F.s0]; omega
  have Q1 := hidden q1
  have Q2 := hidden q2
  clear hq5
  clear q1 q2 F
  obtain ⟨i0, hi, hz0, hz1, hz2⟩ := info_parts Try.infoByte
  have han : a ≤ n := by omega
  clear hm
  go_enter Try.func8, Try.ntmps8
  go_wp2_with (first
    | (go_at_call 10; refine (awake_any _).mono ?_; rintro e w1 ⟨rfl, hb1⟩; have HB := hidden hb1; clear hb1)
    | (go_at_call 17; (with_reducible refine (S1.out _ HB.out).mono ?_); rintro e w2 ⟨t, f, rfl, hy, hb2⟩; have HY := hidden hy; have HB2 := hidden hb2; clear hy hb2)
    | (go_at_call 17; (with_reducible refine (S2.out _ HB2.out).mono ?_); rintro e w3 ⟨t', f', rfl, hy, hb3⟩; have HZ := hidden hy; have HB3 := hidden (HB2.out.trans (hb3.mono HB2.out.size)); have HY2 := hidden (HY.out.below hb3); clear hy hb3)
    | (at_builtin; refine wpList_append_byt _ rfl (.const (.slice none 0 0)) (.tmp 47) 22 rfl w.heap.size 5 i0 (.int .u8 0) Try.underlying22 hi hz0 hz1 hz2 rfl _ _ rfl (Own.nil _ w.heap.size 5) _ _ _ _ _ rfl HY2.out rfl Q1.out HB3.out.size ?_; intro u w4 hown hg; have hb4 := (Below.refl w3.heap.size w3).grown hg (Nat.le_refl _) (nob _); have HZ2 := hidden (HZ.out.below hb4); have HB4 := hidden (HB3.out.trans (hb4.mono HB3.out.size)); clear hg hb4)
    | (at_builtin; refine wpList_append_byt _ rfl (.tmp 48) (.tmp 49) 22 rfl w.heap.size 5 i0 (.int .u8 0) Try.underlying22 hi hz0 hz1 hz2 rfl _ _ rfl hown _ _ _ _ _ rfl HZ2.out rfl Q2.out HB4.out.size ?_; intro u' w5 hown' hg'; have HB5 := hidden (HB4.out.grown hg' HB4.out.size (fun g hg => (hown.lt g hg).1)); clear hg'; obtain ⟨s, l, rfl, hby⟩ := hown'.bytN S3.out S4.out S5.out; clear hown')
    | (go_at_call 21; (with_reducible refine (S6.out _ HB5.out _ _ hby).mono ?_); rintro e w' ⟨rfl, rfl⟩))
  go_ret
  exact ⟨rfl, HB5.out⟩

set_option maxHeartbeats 800000 in
theorem wireSlices_q4 (p : Option Addr) (n c : Nat) (xs ys zs : List Int) (z : Int) (w : World) (b0 : n ≤ 140737488351232) (g1 : 0 ≤ z ∧ z ≤ 255) (a m : Nat) (ha : z % ((n : Int) + 1) = a) (d P Q V : Int) (hd : (n : Int) - a = d) (hm : a + m = n) (hq2 : 2 ≤ n) (hq3 : n ≤ 8) (hq0 : ((a : Int) == 0) = false) (hq : ((a : Int) == (n : Int)) = true) (F : FactsS w p n c xs ys zs a m d P Q V) :
    Calls Try.prog 8 #[.slice p n c, .int .u8 z] w fun e w' => e = .returned (.bool true) ∧ Below w.heap.size w w' := by
  have S1 := hidden F.s1
  have S2 := hidden F.s2
  have S3 := hidden F.s3
  have S4 := hidden F.s4
  have S5 := hidden F.s5
  have S6 := hidden F.s6
  have q1 : ([] : List Int).length + a ≤ 140737488355328 := by simp; omega
  have q2 : ys.length + m ≤ 140737488355328 := by rw [F.s0]; omega
  have Q1 := hidden q1
  have Q2 := hidden q2
  clear q1 q2 F
  obtain ⟨i0, hi, hz0, hz1, hz2⟩ := info_parts Try.infoByte
  have han : a ≤ n := by omega
  clear hm
  go_enter Try.func8, Try.ntmps8
  go_wp2_with (first
    | (go_at_call 10; refine (awake_any _).mono ?_; rintro e w1 ⟨rfl, hb1⟩; have HB := hidden hb1; clear hb1)
    | (go_at_call 17; (with_reducible refine (S1.out _ HB.out).mono ?_); rintro e w2 ⟨t, f, rfl, hy, hb2⟩; have HY := hidden hy; have HB2 := hidden hb2; clear hy hb2)
    | (go_at_call 17; (with_reducible refine (S2.out _ HB2.out).mono ?_); rintro e w3 ⟨t', f', rfl, hy, hb3⟩; have HZ := hidden hy; have HB3 := hidden (HB2.out.trans (hb3.mono HB2.out.size)); have HY2 := hidden (HY.out.below hb3); clear hy hb3)
    | (at_builtin; refine wpList_append_byt _ rfl (.const (.slice none 0 0)) (.tmp 47) 22 rfl w.heap.size 5 i0 (.int .u8 0) Try.underlying22 hi hz0 hz1 hz2 rfl _ _ rfl (Own.nil _ w.heap.size 5) _ _ _ _ _ rfl HY2.out rfl Q1.out HB3.out.size ?_; intro u w4 hown hg; have hb4 := (Below.refl w3.heap.size w3).grown hg (Nat.le_refl _) (nob _); have HZ2 := hidden (HZ.out.below hb4); have HB4 := hidden (HB3.out.trans (hb4.mono HB3.out.size)); clear hg hb4)
    | (at_builtin; refine wpList_append_byt _ rfl (.tmp 48) (.tmp 49) 22 rfl w.heap.size 5 i0 (.int .u8 0) Try.underlying22 hi hz0 hz1 hz2 rfl _ _ rfl hown _ _ _ _ _ rfl HZ2.out rfl Q2.out HB4.out.size ?_; intro u' w5 hown' hg'; have HB5 := hidden (HB4.out.grown hg' HB4.out.size (fun g hg => (hown.lt g hg).1)); clear hg'; obtain ⟨s, l, rfl, hby⟩ := hown'.bytN S3.out S4.out S5.out; clear hown')
    | (go_at_call 21; (with_reducible refine (S6.out _ HB5.out _ _ hby).mono ?_); rintro e w' ⟨rfl, rfl⟩))
  go_ret
  exact ⟨rfl, HB5.out⟩

set_option maxHeartbeats 800000 in
theorem wireSlices_j1 (p : Option Addr) (n c : Nat) (xs ys zs : List Int) (z : Int) (w : World) (b0 : n ≤ 140737488351232) (g1 : 0 ≤ z ∧ z ≤ 255) (a m : Nat) (ha : z % ((n : Int) + 1) = a) (d P Q V : Int) (hd : (n : Int) - a = 1) (hm : a + m = n) (hq2 : 2 ≤ n) (hq3 : n ≤ 8) (hq6 : 1 ≤ a) (F : FactsS w p n c xs ys zs a m 1 P Q V) :
    Calls Try.prog 8 #[.slice p n c, .int .u8 z] w fun e w' => e = .returned (.bool true) ∧ Below w.heap.size w w' := by
  have S1 := hidden F.s1
  have S2 := hidden F.s2
  have S3 := hidden F.s3
  have S4 := hidden F.s4
  have S5 := hidden F.s5
  have S6 := hidden F.s6
  have q1 : ([] : List Int).length + a ≤ 140737488355328 := by simp; omega
  have q2 : ys.length + m ≤ 140737488355328 := by rw [F.s0]; omega
  have Q1 := hidden q1
  have Q2 := hidden q2
  obtain ⟨n1, n2, n3, p0, p1, r0, r1, hV⟩ := F.s7 hq2 hq3 (by omega) (by omega)
  have N1 := hidden n1
  have N2 := hidden n2
  have N3 := hidden n3
  have hq0 : ((a : Int) == 0) = false := by simp; omega
  have hq4 : ((a : Int) == (n : Int)) = false := by simp; omega
  obtain rfl : m = 1 := by omega
  have p2 : P < 72057594037927936 := by
    have : (256 : Int) ^ a ≤ 256 ^ 7 := pow256_le (by omega)
    exact Int.lt_of_lt_of_le p1 (Int.le_trans this (by decide))
  have r2 : Q < 256 := r1
  have hV2 : V = P * 256 + Q := hV
  have ho : bits .or .u64 (P * 256) Q = V := by
    rw [hV2]
    exact bits_join .u64 64 (by decide) wraps_u64 8 _ _ (by omega) (by omega) (by omega) r0 (by omega) (by omega)
  clear n1 n2 n3 p1 r1 hV hV2
  clear q1 q2 F
  obtain ⟨i0, hi, hz0, hz1, hz2⟩ := info_parts Try.infoByte
  have han : a ≤ n := by omega
  clear hm
  go_enter Try.func8, Try.ntmps8
  go_wp2_with (first
    | (go_at_call 10; refine (awake_any _).mono ?_; rintro e w1 ⟨rfl, hb1⟩; have HB := hidden hb1; clear hb1)
    | (go_at_call 17; (with_reducible refine (S1.out _ HB.out).mono ?_); rintro e w2 ⟨t, f, rfl, hy, hb2⟩; have HY := hidden hy; have HB2 := hidden hb2; clear hy hb2)
    | (go_at_call 17; (with_reducible refine (S2.out _ HB2.out).mono ?_); rintro e w3 ⟨t', f', rfl, hy, hb3⟩; have HZ := hidden hy; have HB3 := hidden (HB2.out.trans (hb3.mono HB2.out.size)); have HY2 := hidden (HY.out.below hb3); clear hy hb3)
    | (at_builtin; refine wpList_append_byt _ rfl (.const (.slice none 0 0)) (.tmp 47) 22 rfl w.heap.size 5 i0 (.int .u8 0) Try.underlying22 hi hz0 hz1 hz2 rfl _ _ rfl (Own.nil _ w.heap.size 5) _ _ _ _ _ rfl HY2.out rfl Q1.out HB3.out.size ?_; intro u w4 hown hg; have hb4 := (Below.refl w3.heap.size w3).grown hg (Nat.le_refl _) (nob _); have HZ2 := hidden (HZ.out.below hb4); have HB4 := hidden (HB3.out.trans (hb4.mono HB3.out.size)); clear hg hb4)
    | (at_builtin; refine wpList_append_byt _ rfl (.tmp 48) (.tmp 49) 22 rfl w.heap.size 5 i0 (.int .u8 0) Try.underlying22 hi hz0 hz1 hz2 rfl _ _ rfl hown _ _ _ _ _ rfl HZ2.out rfl Q2.out HB4.out.size ?_; intro u' w5 hown' hg'; have HB5 := hidden (HB4.out.grown hg' HB4.out.size (fun g hg => (hown.lt g hg).1)); clear hg'; obtain ⟨s, l, rfl, hby⟩ := hown'.bytN S3.out S4.out S5.out; clear hown')
    | (go_at_call 21; (with_reducible refine (S6.out _ HB5.out _ _ hby).mono ?_); rintro e w' ⟨rfl, rfl⟩)
    | (go_at_call 12; (first | (with_reducible refine (N1.out _ HB5.out).mono ?_) | (with_reducible refine (N2.out _ HB5.out).mono ?_) | (with_reducible refine (N3.out _ HB5.out).mono ?_)); rintro e w' ⟨rfl, rfl⟩))
  go_ret
  exact ⟨rfl, HB5.out⟩

set_option maxHeartbeats 800000 in
theorem wireSlices_j2 (p : Option Addr) (n c : Nat) (xs ys zs : List Int) (z : Int) (w : World) (b0 : n ≤ 140737488351232) (g1 : 0 ≤ z ∧ z ≤ 255) (a m : Nat) (ha : z % ((n : Int) + 1) = a) (d P Q V : Int) (hd : (n : Int) - a = 2) (hm : a + m = n) (hq2 : 2 ≤ n) (hq3 : n ≤ 8) (hq6 : 1 ≤ a) (F : FactsS w p n c xs ys zs a m 2 P Q V) :
    Calls Try.prog 8 #[.slice p n c, .int .u8 z] w fun e w' => e = .returned (.bool true) ∧ Below w.heap.size w w' := by
  have S1 := hidden F.s1
  have S2 := hidden F.s2
  have S3 := hidden F.s3
  have S4 := hidden F.s4
  have S5 := hidden F.s5
  have S6 := hidden F.s6
  have q1 : ([] : List Int).length + a ≤ 140737488355328 := by simp; omega
  have q2 : ys.length + m ≤ 140737488355328 := by rw [F.s0]; omega
  have Q1 := hidden q1
  have Q2 := hidden q2
  obtain ⟨n1, n2, n3, p0, p1, r0, r1, hV⟩ := F.s7 hq2 hq3 (by omega) (by omega)
  have N1 := hidden n1
  have N2 := hidden n2
  have N3 := hidden n3
  have hq0 : ((a : Int) == 0) = false := by simp; omega
  have hq4 : ((a : Int) == (n : Int)) = false := by simp; omega
  obtain rfl : m = 2 := by omega
  have p2 : P < 281474976710656 := by
    have : (256 : Int) ^ a ≤ 256 ^ 6 := pow256_le (by omega)
    exact Int.lt_of_lt_of_le p1 (Int.le_trans this (by decide))
  have r2 : Q < 65536 := r1
  have hV2 : V = P * 65536 + Q := hV
  have ho : bits .or .u64 (P * 65536) Q = V := by
    rw [hV2]
    exact bits_join .u64 64 (by decide) wraps_u64 16 _ _ (by omega) (by omega) (by omega) r0 (by omega) (by omega)
  clear n1 n2 n3 p1 r1 hV hV2
  clear q1 q2 F
  obtain ⟨i0, hi, hz0, hz1, hz2⟩ := info_parts Try.infoByte
  have han : a ≤ n := by omega
  clear hm
  go_enter Try.func8, Try.ntmps8
  go_wp2_with (first
    | (go_at_call 10; refine (awake_any _).mono ?_; rintro e w1 ⟨rfl, hb1⟩; have HB := hidden hb1; clear hb1)
    | (go_at_call 17; (with_reducible refine (S1.out _ HB.out).mono ?_); rintro e w2 ⟨t, f, rfl, hy, hb2⟩; have HY := hidden hy; have HB2 := hidden hb2; clear hy hb2)
    | (go_at_call 17; (with_reducible refine (S2.out _ HB2.out).mono ?_); rintro e w3 ⟨t', f', rfl, hy, hb3⟩; have HZ := hidden hy; have HB3 := hidden (HB2.out.trans (hb3.mono HB2.out.size)); have HY2 := hidden (HY.out.below hb3); clear hy hb3)
    | (at_builtin; refine wpList_append_byt _ rfl (.const (.slice none 0 0)) (.tmp 47) 22 rfl w.heap.size 5 i0 (.int .u8 0) Try.underlying22 hi hz0 hz1 hz2 rfl _ _ rfl (Own.nil _ w.heap.size 5) _ _ _ _ _ rfl HY2.out rfl Q1.out HB3.out.size ?_; intro u w4 hown hg; have hb4 := (Below.refl w3.heap.size w3).grown hg (Nat.le_refl _) (nob _); have HZ2 := hidden (HZ.out.below hb4); have HB4 := hidden (HB3.out.trans (hb4.mono HB3.out.size)); clear hg hb4)
    | (at_builtin; refine wpList_append_byt _ rfl (.tmp 48) (.tmp 49) 22 rfl w.heap.size 5 i0 (.int .u8 0) Try.underlying22 hi hz0 hz1 hz2 rfl _ _ rfl hown _ _ _ _ _ rfl HZ2.out rfl Q2.out HB4.out.size ?_; intro u' w5 hown' hg'; have HB5 := hidden (HB4.out.grown hg' HB4.out.size (fun g hg => (hown.lt g hg).1)); clear hg'; obtain ⟨s, l, rfl, hby⟩ := hown'.bytN S3.out S4.out S5.out; clear hown')
    | (go_at_call 21; (with_reducible refine (S6.out _ HB5.out _ _ hby).mono ?_); rintro e w' ⟨rfl, rfl⟩)
    | (go_at_call 12; (first | (with_reducible refine (N1.out _ HB5.out).mono ?_) | (with_reducible refine (N2.out _ HB5.out).mono ?_) | (with_reducible refine (N3.out _ HB5.out).mono ?_)); rintro e w' ⟨rfl, rfl⟩))
  go_ret
  exact ⟨rfl, HB5.out⟩

set_option maxHeartbeats 800000 in
theorem wireSlices_j3 (p : Option Addr) (n c : Nat) (xs ys zs : List Int) (z : Int) (w : World) (b0 : n ≤ 140737488351232) (g1 : 0 ≤ z ∧ z ≤ 255) (a m : Nat) (ha : z % ((n : Int) + 1) = a) (d P Q V : Int) (hd : (n : Int) - a = 3) (hm : a + m = n) (hq2 : 2 ≤ n) (hq3 : n ≤ 8) (hq6 : 1 ≤ a) (F : FactsS w p n c xs ys zs a m 3 P Q V) :
    Calls Try.prog 8 #[.slice p n c, .int .u8 z] w fun e w' => e = .returned (.bool true) ∧ Below w.heap.size w w' := by
  have S1 := hidden F.s1
  have S2 := hidden F.s2
  have S3 := hidden F.s3
  have S4 := hidden F.s4
  have S5 := hidden F.s5
  have S6 := hidden F.s6
  have q1 : ([] : List Int).length + a ≤ 140737488355328 := by simp; omega
  have q2 : ys.length + m ≤ 140737488355328 := by rw [F.s0]; omega
  have Q1 := hidden q1
  have Q2 := hidden q2
  obtain ⟨n1, n2, n3, p0, p1, r0, r1, hV⟩ := F.s7 hq2 hq3 (by omega) (by omega)
  have N1 := hidden n1
  have N2 := hidden n2
  have N3 := hidden n3
  have hq0 : ((a : Int) == 0) = false := by simp; omega
  have hq4 : ((a : Int) == (n : Int)) = false := by simp; omega
  obtain rfl : m = 3 := by omega
  have p2 : P < 1099511627776 := by
    have : (256 : Int) ^ a ≤ 256 ^ 5 := pow256_le (by omega)
    exact Int.lt_of_lt_of_le p1 (Int.le_trans this (by decide))
  have r2 : Q < 16777216 := r1
  have hV2 : V = P * 16777216 + Q := hV
  have ho : bits .or .u64 (P * 16777216) Q = V := by
    rw [hV2]
    exact bits_join .u64 64 (by decide) wraps_u64 24 _ _ (by omega) (by omega) (by omega) r0 (by omega) (by omega)
  clear n1 n2 n3 p1 r1 hV hV2
  clear q1 q2 F
  obtain ⟨i0, hi, hz0, hz1, hz2⟩ := info_parts Try.infoByte
  have han : a ≤ n := by omega
  clear hm
  go_enter Try.func8, Try.ntmps8
  go_wp2_with (first
    | (go_at_call 10; refine (awake_any _).mono ?_; rintro e w1 ⟨rfl, hb1⟩; have HB := hidden hb1; clear hb1)
    | (go_at_call 17; (with_reducible refine (S1.out _ HB.out).mono ?_); rintro e w2 ⟨t, f, rfl, hy, hb2⟩; have HY := hidden hy; have HB2 := hidden hb2; clear hy hb2)
    | (go_at_call 17; (with_reducible refine (S2.out _ HB2.out).mono ?_); rintro e w3 ⟨t', f', rfl, hy, hb3⟩; have HZ := hidden hy; have HB3 := hidden (HB2.out.trans (hb3.mono HB2.out.size)); have HY2 := hidden (HY.out.below hb3); clear hy hb3)
    | (at_builtin; refine wpList_append_byt _ rfl (.const (.slice none 0 0)) (.tmp 47) 22 rfl w.heap.size 5 i0 (.int .u8 0) Try.underlying22 hi hz0 hz1 hz2 rfl _ _ rfl (Own.nil _ w.heap.size 5) _ _ _ _ _ rfl HY2.out rfl Q1.out HB3.out.size ?_; intro u w4 hown hg; have hb4 := (Below.refl w3.heap.size w3).grown hg (Nat.le_refl _) (nob _); have HZ2 := hidden (HZ.out.below hb4); have HB4 := hidden (HB3.out.trans (hb4.mono HB3.out.size)); clear hg hb4)
    | (at_builtin; refine wpList_append_byt _ rfl (.tmp 48) (.tmp 49) 22 rfl w.heap.size 5 i0 (.int .u8 0) Try.underlying22 hi hz0 hz1 hz2 rfl _ _ rfl hown _ _ _ _ _ rfl HZ2.out rfl Q2.out HB4.out.size ?_; intro u' w5 hown' hg'; have HB5 := hidden (HB4.out.grown hg' HB4.out.size (fun g hg => (hown.lt g hg).1)); clear hg'; obtain ⟨s, l, rfl, hby⟩ := hown'.bytN S3.out S4.out S5.out; clear hown')
    | (go_at_call 21; (with_reducible refine (S6.out _ HB5.out _ _ hby).mono ?_); rintro e w' ⟨rfl, rfl⟩)
    | (go_at_call 12; (first | (with_reducible refine (N1.out _ HB5.out).mono ?_) | (with_reducible refine (N2.out _ HB5.out).mono ?_) | (with_reducible refine (N3.out _ HB5.out).mono ?_)); rintro e w' ⟨rfl, rfl⟩))
  go_ret
  exact ⟨rfl, HB5.out⟩

set_option maxHeartbeats 800000 in
theorem wireSlices_j4 (p : Option Addr) (n c : Nat) (xs ys zs : List Int) (z : Int) (w : World) (b0 : n ≤ 140737488351232) (g1 : 0 ≤ z ∧ z ≤ 255) (a m : Nat) (ha : z % ((n : Int) + 1) = a) (d P Q V : Int) (hd : (n : Int) - a = 4) (hm : a + m = n) (hq2 : 2 ≤ n) (hq3 : n ≤ 8) (hq6 : 1 ≤ a) (F : FactsS w p n c xs ys zs a m 4 P Q V) :
    Calls Try.prog 8 #[.slice p n c, .int .u8 z] w fun e w' => e = .returned (.bool true) ∧ Below w.heap.size w w' := by
  have S1 := hidden F.s1
  have S2 := hidden F.s2
  have S3 := hidden F.s3
  have S4 := hidden F.s4
  have S5 := hidden F.s5
  have S6 := hidden F.s6
  have q1 : ([] : List Int).length + a ≤ 140737488355328 := by simp; omega
  have q2 : ys.length + m ≤ 140737488355328 := by rw [F.s0]; omega
  have Q1 := hidden q1
  have Q2 := hidden q2
  obtain ⟨n1, n2, n3, p0, p1, r0, r1, hV⟩ := F.s7 hq2 hq3 (by omega) (by omega)
  have N1 := hidden n1
  have N2 := hidden n2
  have N3 := hidden n3
  have hq0 : ((a : Int) == 0) = false := by simp; omega
  have hq4 : ((a : Int) == (n : Int)) = false := by simp; omega
  obtain rfl : m = 4 := by omega
  have p2 : P < 4294967296 := by
    have : (256 : Int) ^ a ≤ 256 ^ 4 := pow256_le (by omega)
    exact Int.lt_of_lt_of_le p1 (Int.le_trans this (by decide))
  have r2 : Q < 4294967296 := r1
  have hV2 : V = P * 4294967296 + Q := hV
  have ho : bits .or .u64 (P * 4294967296) Q = V := by
    rw [hV2]
    exact bits_join .u64 64 (by decide) wraps_u64 32 _ _ (by omega) (by omega) (by omega) r0 (by omega) (by omega)
  clear n1 n2 n3 p1 r1 hV hV2
  clear q1 q2 F
  obtain ⟨i0, hi, hz0, hz1, hz2⟩ := info_parts Try.infoByte
  have han : a ≤ n := by omega
  clear hm
  go_enter Try.func8, Try.ntmps8
  go_wp2_with (first
    | (go_at_call 10; refine (awake_any _).mono ?_; rintro e w1 ⟨rfl, hb1⟩; have HB := hidden hb1; clear hb1)
    | (go_at_call 17; (with_reducible refine (S1.out _ HB.out).mono ?_); rintro e w2 ⟨t, f, rfl, hy, hb2⟩; have HY := hidden hy; have HB2 := hidden hb2; clear hy hb2)
    | (go_at_call 17; (with_reducible refine (S2.out _ HB2.out).mono ?_); rintro e w3 ⟨t', f', rfl, hy, hb3⟩; have HZ := hidden hy; have HB3 := hidden (HB2.out.trans (hb3.mono HB2.out.size)); have HY2 := hidden (HY.out.below hb3); clear hy hb3)
    | (at_builtin; refine wpList_append_byt _ rfl (.const (.slice none 0 0)) (.tmp 47) 22 rfl w.heap.size 5 i0 (.int .u8 0) Try.underlying22 hi hz0 hz1 hz2 rfl _ _ rfl (Own.nil _ w.heap.size 5) _ _ _ _ _ rfl HY2.out rfl Q1.out HB3.out.size ?_; intro u w4 hown hg; have hb4 := (Below.refl w3.heap.size w3).grown hg (Nat.le_refl _) (nob _); have HZ2 := hidden (HZ.out.below hb4); have HB4 := hidden (HB3.out.trans (hb4.mono HB3.out.size)); clear hg hb4)
    | (at_builtin; refine wpList_append_byt _ rfl (.tmp 48) (.tmp 49) 22 rfl w.heap.size 5 i0 (.int .u8 0) Try.underlying22 hi hz0 hz1 hz2 rfl _ _ rfl hown _ _ _ _ _ rfl HZ2.out rfl Q2.out HB4.out.size ?_; intro u' w5 hown' hg'; have HB5 := hidden (HB4.out.grown hg' HB4.out.size (fun g hg => (hown.lt g hg).1)); clear hg'; obtain ⟨s, l, rfl, hby⟩ := hown'.bytN S3.out S4.out S5.out; clear hown')
    | (go_at_call 21; (with_reducible refine (S6.out _ HB5.out _ _ hby).mono ?_); rintro e w' ⟨rfl, rfl⟩)
    | (go_at_call 12; (first | (with_reducible refine (N1.out _ HB5.out).mono ?_) | (with_reducible refine (N2.out _ HB5.out).mono ?_) | (with_reducible refine (N3.out _ HB5.out).mono ?_)); rintro e w' ⟨rfl, rfl⟩))
  go_ret
  exact ⟨rfl, HB5.out⟩

set_option maxHeartbeats 800000 in
theorem wireSlices_j5 (p : Option Addr) (n c : Nat) (xs ys zs : List Int) (z : Int) (w : World) (b0 : n ≤ 140737488351232) (g1 : 0 ≤ z ∧ z ≤ 255) (a m : Nat) (ha : z % ((n : Int) + 1) = a) (d P Q V : Int) (hd : (n : Int) - a = 5) (hm : a + m = n) (hq2 : 2 ≤ n) (hq3 : n ≤ 8) (hq6 : 1 ≤ a) (F : FactsS w p n c xs ys zs a m 5 P Q V) :
    Calls Try.prog 8 #[.slice p n c, .int .u8 z] w fun e w' => e = .returned (.bool true) ∧ Below w.heap.size w w' := by
  have S1 := hidden F.s1
  have S2 := hidden F.s2
  have S3 := hidden F.s3
  have S4 := hidden F.s4
  have S5 := hidden F.s5
  have S6 := hidden F.s6
  have q1 : ([] : List Int).length + a ≤ 140737488355328 := by simp; omega
  have q2 : ys.length + m ≤ 140737488355328 := by rw [F.s0]; omega
  have Q1 := hidden q1
  have Q2 := hidden q2
  obtain ⟨n1, n2, n3, p0, p1, r0, r1, hV⟩ := F.s7 hq2 hq3 (by omega) (by omega)
  have N1 := hidden n1
  have N2 := hidden n2
  have N3 := hidden n3
  have hq0 : ((a : Int) == 0) = false := by simp; omega
  have hq4 : ((a : Int) == (n : Int)) = false := by simp; omega
  obtain rfl : m = 5 := by omega
  have p2 : P < 16777216 := by
    have : (256 : Int) ^ a ≤ 256 ^ 3 := pow256_le (by omega)
    exact Int.lt_of_lt_of_le p1 (Int.le_trans this (by decide))
  have r2 : Q < 1099511627776 := r1
  have hV2 : V = P * 1099511627776 + Q := hV
  have ho : bits .or .u64 (P * 1099511627776) Q = V := by
    rw [hV2]
    exact bits_join .u64 64 (by decide) wraps_u64 40 _ _ (by omega) (by omega) (by omega) r0 (by omega) (by omega)
  clear n1 n2 n3 p1 r1 hV hV2
  clear q1 q2 F
  obtain ⟨i0, hi, hz0, hz1, hz2⟩ := info_parts Try.infoByte
  have han : a ≤ n := by omega
  clear hm
  go_enter Try.func8, Try.ntmps8
  go_wp2_with (first
    | (go_at_call 10; refine (awake_any _).mono ?_; rintro e w1 ⟨rfl, hb1⟩; have HB := hidden hb1; clear hb1)
    | (go_at_call 17; (with_reducible refine (S1.out _ HB.out).mono ?_); rintro e w2 ⟨t, f, rfl, hy, hb2⟩; have HY := hidden hy; have HB2 := hidden hb2; clear hy hb2)
    | (go_at_call 17; (with_reducible refine (S2.out _ HB2.out).mono ?_); rintro e w3 ⟨t', f', rfl, hy, hb3⟩; have HZ := hidden hy; have HB3 := hidden (HB2.out.trans (hb3.mono HB2.out.size)); have HY2 := hidden (HY.out.below hb3); clear hy hb3)
    | (at_builtin; refine wpList_append_byt _ rfl (.const (.slice none 0 0)) (.tmp 47) 22 rfl w.heap.size 5 i0 (.int .u8 0) Try.underlying22 hi hz0 hz1 hz2 rfl _ _ rfl (Own.nil _ w.heap.size 5) _ _ _ _ _ rfl HY2.out rfl Q1.out HB3.out.size ?_; intro u w4 hown hg; have hb4 := (Below.refl w3.heap.size w3).grown hg (Nat.le_refl _) (nob _); have HZ2 := hidden (HZ.out.below hb4); have HB4 := hidden (HB3.out.trans (hb4.mono HB3.out.size)); clear hg hb4)
    | (at_builtin; refine wpList_append_byt _ rfl (.tmp 48) (.tmp 49) 22 rfl w.heap.size 5 i0 (.int .u8 0) Try.underlying22 hi hz0 hz1 hz2 rfl _ _ rfl hown _ _ _ _ _ rfl HZ2.out rfl Q2.out HB4.out.size ?_; intro u' w5 hown' hg'; have HB5 := hidden (HB4.out.grown hg' HB4.out.size (fun g hg => (hown.lt g hg).1)); clear hg'; obtain ⟨s, l, rfl, hby⟩ := hown'.bytN S3.out S4.out S5.out; clear hown')
    | (go_at_call 21; (with_reducible refine (S6.out _ HB5.out _ _ hby).mono ?_); rintro e w' ⟨rfl, rfl⟩)
    | (go_at_call 12; (first | (with_reducible refine (N1.out _ HB5.out).mono ?_) | (with_reducible refine (N2.out _ HB5.out).mono ?_) | (with_reducible refine (N3.out _ HB5.out).mono ?_)); rintro e w' ⟨rfl, rfl⟩))
  go_ret
  exact ⟨rfl, HB5.out⟩

set_option maxHeartbeats 800000 in
theorem wireSlices_j6 (p : Option Addr) (n c : Nat) (xs ys zs : List Int) (z : Int) (w : World) (b0 : n ≤ 140737488351232) (g1 : 0 ≤ z ∧ z ≤ 255) (a m : Nat) (ha : z % ((n : Int) + 1) = a) (d P Q V : Int) (hd : (n : Int) - a = 6) (hm : a + m = n) (hq2 : 2 ≤ n) (hq3 : n ≤ 8) (hq6 : 1 ≤ a) (F : FactsS w p n c xs ys zs a m 6 P Q V) :
    Calls Try.prog 8 #[.slice p n c, .int .u8 z] w fun e w' => e = .returned (.bool true) ∧ Below w.heap.size w w' := by
  have S1 := hidden F.s1
  have S2 := hidden F.s2
  have S3 := hidden F.s3
  have S4 := hidden F.s4
  have S5 := hidden F.s5
  have S6 := hidden F.s6
  have q1 : ([] : List Int).length + a ≤ 140737488355328 := by simp; omega
  have q2 : ys.length + m ≤ 140737488355328 := by rw [F.s0]; omega
  have Q1 := hidden q1
  have Q2 := hidden q2
  obtain ⟨n1, n2, n3, p0, p1, r0, r1, hV⟩ := F.s7 hq2 hq3 (by omega) (by omega)
  have N1 := hidden n1
  have N2 := hidden n2
  have N3 := hidden n3
  have hq0 : ((a : Int) == 0) = false := by simp; omega
  have hq4 : ((a : Int) == (n : Int)) = false := by simp; omega
  obtain rfl : m = 6 := by omega
  have p2 : P < 65536 := by
    have : (256 : Int) ^ a ≤ 256 ^ 2 := pow256_le (by omega)
    exact Int.lt_of_lt_of_le p1 (Int.le_trans this (by decide))
  have r2 : Q < 281474976710656 := r1
  have hV2 : V = P * 281474976710656 + Q := hV
  have ho : bits .or .u64 (P * 281474976710656) Q = V := by
    rw [hV2]
    exact bits_join .u64 64 (by decide) wraps_u64 48 _ _ (by omega) (by omega) (by omega) r0 (by omega) (by omega)
  clear n1 n2 n3 p1 r1 hV hV2
  clear q1 q2 F
  obtain ⟨i0, hi, hz0, hz1, hz2⟩ := info_parts Try.infoByte
  have han : a ≤ n := by omega
  clear hm
  go_enter Try.func8, Try.ntmps8
  go_wp2_with (first
    | (go_at_call 10; refine (awake_any _).mono ?_; rintro e w1 ⟨rfl, hb1⟩; have HB := hidden hb1; clear hb1)
    | (go_at_call 17; (with_reducible refine (S1.out _ HB.out).mono ?_); rintro e w2 ⟨t, f, rfl, hy, hb2⟩; have HY := hidden hy; have HB2 := hidden hb2; clear hy hb2)
    | (go_at_call 17; (with_reducible refine (S2.out _ HB2.out).mono ?_); rintro e w3 ⟨t', f', rfl, hy, hb3⟩; have HZ := hidden hy; have HB3 := hidden (HB2.out.trans (hb3.mono HB2.out.size)); have HY2 := hidden (HY.out.below hb3); clear hy hb3)
    | (at_builtin; refine wpList_append_byt _ rfl (.const (.slice none 0 0)) (.tmp 47) 22 rfl w.heap.size 5 i0 (.int .u8 0) Try.underlying22 hi hz0 hz1 hz2 rfl _ _ rfl (Own.nil _ w.heap.size 5) _ _ _ _ _ rfl HY2.out rfl Q1.out HB3.out.size ?_; intro u w4 hown hg; have hb4 := (Below.refl w3.heap.size w3).grown hg (Nat.le_refl _) (nob _); have HZ2 := hidden (HZ.out.below hb4); have HB4 := hidden (HB3.out.trans (hb4.mono HB3.out.size)); clear hg hb4)
    | (at_builtin; refine wpList_append_byt _ rfl (.tmp 48) (.tmp 49) 22 rfl w.heap.size 5 i0 (.int .u8 0) Try.underlying22 hi hz0 hz1 hz2 rfl _ _ rfl hown _ _ _ _ _ rfl HZ2.out rfl Q2.out HB4.out.size ?_; intro u' w5 hown' hg'; have HB5 := hidden (HB4.out.grown hg' HB4.out.size (fun g hg => (hown.lt g hg).1)); clear hg'; obtain ⟨s, l, rfl, hby⟩ := hown'.bytN S3.out S4.out S5.out; clear hown')
    | (go_at_call 21; (with_reducible refine (S6.out _ HB5.out _ _ hby).mono ?_); rintro e w' ⟨rfl, rfl⟩)
    | (go_at_call 12; (first | (with_reducible refine (N1.out _ HB5.out).mono ?_) | (with_reducible refine (N2.out _ HB5.out).mono ?_) | (with_reducible refine (N3.out _ HB5.out).mono ?_)); rintro e w' ⟨rfl, rfl⟩))
  go_ret
  exact ⟨rfl, HB5.out⟩

set_option maxHeartbeats 800000 in
theorem wireSlices_j7 (p : Option Addr) (n c : Nat) (xs ys zs : List Int) (z : Int) (w : World) (b0 : n ≤ 140737488351232) (g1 : 0 ≤ z ∧ z ≤ 255) (a m : Nat) (ha : z % ((n : Int) + 1) = a) (d P Q V : Int) (hd : (n : Int) - a = 7) (hm : a + m = n) (hq2 : 2 ≤ n) (hq3 : n ≤ 8) (hq6 : 1 ≤ a) (F : FactsS w p n c xs ys zs a m 7 P Q V) :
    Calls Try.prog 8 #[.slice p n c, .int .u8 z] w fun e w' => e = .returned (.bool true) ∧ Below w.heap.size w w' := by
  have S1 := hidden F.s1
  have S2 := hidden F.s2
  have S3 := hidden F.s3
  have S4 := hidden F.s4
  have S5 := hidden F.s5
  have S6 := hidden F.s6
  have q1 : ([] : List Int).length + a ≤ 140737488355328 := by simp; omega
  have q2 : ys.length + m ≤ 140737488355328 := by rw [F.s0]; omega
  have Q1 := hidden q1
  have Q2 := hidden q2
  obtain ⟨n1, n2, n3, p0, p1, r0, r1, hV⟩ := F.s7 hq2 hq3 (by omega) (by omega)
  have N1 := hidden n1
  have N2 := hidden n2
  have N3 := hidden n3
  have hq0 : ((a : Int) == 0) = false := by simp; omega
  have hq4 : ((a : Int) == (n : Int)) = false := by simp; omega
  obtain rfl : m = 7 := by omega
  have p2 : P < 256 := by
    have : (256 : Int) ^ a ≤ 256 ^ 1 := pow256_le (by omega)
    exact Int.lt_of_lt_of_le p1 (Int.le_trans this (by decide))
  have r2 : Q < 72057594037927936 := r1
  have hV2 : V = P * 72057594037927936 + Q := hV
  have ho : bits .or .u64 (P * 72057594037927936) Q = V := by
    rw [hV2]
    exact bits_join .u64 64 (by decide) wraps_u64 56 _ _ (by omega) (by omega) (by omega) r0 (by omega) (by omega)
  clear n1 n2 n3 p1 r1 hV hV2
  clear q1 q2 F
  obtain ⟨i0, hi, hz0, hz1, hz2⟩ := info_parts Try.infoByte
  have han : a ≤ n := by omega
  clear hm
  go_enter Try.func8, Try.ntmps8
  go_wp2_with (first
    | (go_at_call 10; refine (awake_any _).mono ?_; rintro e w1 ⟨rfl, hb1⟩; have HB := hidden hb1; clear hb1)
    | (go_at_call 17; (with_reducible refine (S1.out _ HB.out).mono ?_); rintro e w2 ⟨t, f, rfl, hy, hb2⟩; have HY := hidden hy; have HB2 := hidden hb2; clear hy hb2)
    | (go_at_call 17; (with_reducible refine (S2.out _ HB2.out).mono ?_); rintro e w3 ⟨t', f', rfl, hy, hb3⟩; have HZ := hidden hy; have HB3 := hidden (HB2.out.trans (hb3.mono HB2.out.size)); have HY2 := hidden (HY.out.below hb3); clear hy hb3)
    | (at_builtin; refine wpList_append_byt _ rfl (.const (.slice none 0 0)) (.tmp 47) 22 rfl w.heap.size 5 i0 (.int .u8 0) Try.underlying22 hi hz0 hz1 hz2 rfl _ _ rfl (Own.nil _ w.heap.size 5) _ _ _ _ _ rfl HY2.out rfl Q1.out HB3.out.size ?_; intro u w4 hown hg; have hb4 := (Below.refl w3.heap.size w3).grown hg (Nat.le_refl _) (nob _); have HZ2 := hidden (HZ.out.below hb4); have HB4 := hidden (HB3.out.trans (hb4.mono HB3.out.size)); clear hg hb4)
    | (at_builtin; refine wpList_append_byt _ rfl (.tmp 48) (.tmp 49) 22 rfl w.heap.size 5 i0 (.int .u8 0) Try.underlying22 hi hz0 hz1 hz2 rfl _ _ rfl hown _ _ _ _ _ rfl HZ2.out rfl Q2.out HB4.out.size ?_; intro u' w5 hown' hg'; have HB5 := hidden (HB4.out.grown hg' HB4.out.size (fun g hg => (hown.lt g hg).1)); clear hg'; obtain ⟨s, l, rfl, hby⟩ := hown'.bytN S3.out S4.out S5.out; clear hown')
    | (go_at_call 21; (with_reducible refine (S6.out _ HB5.out _ _ hby).mono ?_); rintro e w' ⟨rfl, rfl⟩)
    | (go_at_call 12; (first | (with_reducible refine (N1.out _ HB5.out).mono ?_) | (with_reducible refine (N2.out _ HB5.out).mono ?_) | (with_reducible refine (N3.out _ HB5.out).mono ?_)); rintro e w' ⟨rfl, rfl⟩))
  go_ret
  exact ⟨rfl, HB5.out⟩

theorem wireSlices_walk (p : Option Addr) (n c : Nat) (xs : List Int) (z : Int) (w : World) (h : Byt w p n c xs) (b0 : c ≤ 140737488351232) (g1 : 0 ≤ z ∧ z ≤ 255) :
    Calls Try.prog 8 #[.slice p n c, .int .u8 z] w fun e w' => e = .returned (.bool true) ∧ Below w.heap.size w w' := by
  have l0 := h.cap
  have e1 := Int.emod_nonneg z (show (n : Int) + 1 ≠ 0 by omega)
  have e2 := Int.emod_lt_of_pos z (show (0 : Int) < (n : Int) + 1 by omega)
  obtain ⟨a, ha⟩ := Int.eq_ofNat_of_zero_le e1
  have F := factsS p n c xs w h b0 a (n - a) (by omega)
  by_cases q1 : n < 2
  · exact wireSlices_q1 p n c xs _ _ z w (by omega) g1 a (n - a) ha _ _ _ _ (by omega) (by omega) q1 F
  by_cases q2 : 8 < n
  · exact wireSlices_q2 p n c xs _ _ z w (by omega) g1 a (n - a) ha _ _ _ _ (by omega) (by omega) (by omega) q2 F
  by_cases q3 : a = 0
  · exact wireSlices_q3 p n c xs _ _ z w (by omega) g1 a (n - a) ha _ _ _ _ (by omega) (by omega) (by omega) (by omega) (by simp [q3]) (.inl q3) F
  by_cases q4 : a = n
  · exact wireSlices_q4 p n c xs _ _ z w (by omega) g1 a (n - a) ha _ _ _ _ (by omega) (by omega) (by omega) (by omega) (by simp; omega) (by simp [q4]) F
  have hj : n - a = 1 ∨ n - a = 2 ∨ n - a = 3 ∨ n - a = 4 ∨ n - a = 5 ∨ n - a = 6 ∨ n - a = 7 := by omega
  rcases hj with hj | hj | hj | hj | hj | hj | hj
  · rw [hj] at F
    exact wireSlices_j1 p n c xs _ _ z w (by omega) g1 a 1 ha 0 _ _ _ (by omega) (by omega) (by omega) (by omega) (by omega) F
  · rw [hj] at F
    exact wireSlices_j2 p n c xs _ _ z w (by omega) g1 a 2 ha 0 _ _ _ (by omega) (by omega) (by omega) (by omega) (by omega) F
  · rw [hj] at F
    exact wireSlices_j3 p n c xs _ _ z w (by omega) g1 a 3 ha 0 _ _ _ (by omega) (by omega) (by omega) (by omega) (by omega) F
  · rw [hj] at F
    exact wireSlices_j4 p n c xs _ _ z w (by omega) g1 a 4 ha 0 _ _ _ (by omega) (by omega) (by omega) (by omega) (by omega) F
  · rw [hj] at F
    exact wireSlices_j5 p n c xs _ _ z w (by omega) g1 a 5 ha 0 _ _ _ (by omega) (by omega) (by omega) (by omega) (by omega) F
  · rw [hj] at F
    exact wireSlices_j6 p n c xs _ _ z w (by omega) g1 a 6 ha 0 _ _ _ (by omega) (by omega) (by omega) (by omega) (by omega) F
  · rw [hj] at F
    exact wireSlices_j7 p n c xs _ _ z w (by omega) g1 a 7 ha 0 _ _ _ (by omega) (by omega) (by omega) (by omega) (by omega) F
end Go.Proofs.Ytdlbjbfonihglaa
