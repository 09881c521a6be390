/-
  What header.Build returns: the 28 bytes of a header, or the first error.
-/
import Derived.Test.YtjkeijkbekdjfaaRet
import Derived.Test.YtjkeijkbekdjfaaWPut
import Derived.Test.YtjkeijkbekdjfaaRPut
namespace Go.Proofs.Ytjkeijkbekdjfaa
open Go.RowKit
set_option linter.unusedVariables false

/-- The bytes of a header. -/
def hdrL (i r n x f m len : Int) : List Int := be 8 i ++ (be 8 r ++ ([n % 256, 32, x % 256, f % 256] ++ (be 4 m ++ be 4 len)))
/-- The bytes of a header, or the first error. -/
def buildR (i r n x f m len : Int) : List Int × Int :=
  if checkR i r n x f m ≠ 0 then ([], checkR i r n x f m) else if len < 28 ∨ 8192 < len then ([], 5) else (hdrL i r n x f m len, 0)

theorem be_one (v : Int) : be 1 v = [v % 256] := by simp [be]
theorem Own.mono {w : World} {B B' : Nat} {e : TypeId} {v : Value} {xs : List Int} (h : Own w B e v xs) (hB : B' ≤ B) : Own w B' e v xs := by
  refine ⟨h.1, ?_⟩
  rcases h.2 with h | ⟨g, cap, cur, hv, hg, r⟩
  · exact Or.inl h
  · exact Or.inr ⟨g, cap, cur, hv, Nat.le_trans hB hg, r⟩

/-- The result of a step: the bytes so far, and one field more. -/
def Next1 (w : World) (n : Nat) (xs : List Int) (e : Ending) (w' : World) : Prop := ∃ p c, e = .returned (.slice p n c) ∧ Byt w' p n c xs ∧ Own w' w.heap.size 5 (.slice p n c) xs ∧ Below w.heap.size w w'

/-- A literal of bytes. -/
theorem Byt.made (w : World) (xs : List Int) (T : TypeId) (hr : ∀ x ∈ xs, 0 ≤ x ∧ x ≤ 255) (hl : xs.length ≤ 1000) : Byt (w.alloc (.cells (xs.map (Value.int .u8)).toArray T)) (some ⟨w.heap.size, 0, none⟩) xs.length xs.length xs := by
  refine ⟨rfl, Nat.le_refl _, by unfold maxLen; omega, hr, fun hp => ⟨_, _, rfl, fun i hi => ?_⟩⟩
  rw [World.cell?_alloc_at _ _ _ _ rfl]
  simp [List.getD_eq_getElem?_getD, List.getElem?_eq_getElem hi]

theorem put_next (p : Option Addr) (n c k N : Nat) (xs : List Int) (v : Int) (w : World) (h : Byt w p n c xs) (hn : n ≤ 100) (hv : 0 ≤ v ∧ v ≤ 18446744073709551615) (hk : 1 ≤ k ∧ k ≤ 8) (hN : n + k = N) :
    Calls Try.prog 28 #[.slice p n c, .int .u64 v, .int .i64 k] w (Next1 w N (xs ++ be k v)) := by
  refine (put_yes p n c xs w h (by omega) v hv k hk.1 hk.2).mono ?_
  rintro e w' ⟨u, rfl, ho, hb⟩
  have hl : (xs ++ be k v).length = N := by rw [List.length_append, be_len, h.len, hN]
  obtain ⟨p', c', rfl, hy⟩ := ho.bytN rfl hl (rng_append h.rng (be_rng _ _))
  exact ⟨p', c', rfl, hy, ho, hb⟩
theorem rput_next (p : Option Addr) (n c k N : Nat) (xs : List Int) (v : Int) (w : World) (h : Byt w p n c xs) (hn : n ≤ 100) (hv : 0 ≤ v ∧ v ≤ 18446744073709551615) (hk : 1 ≤ k ∧ k ≤ 8) (hN : n + k = N) :
    Calls Try.prog 25 #[.slice p n c, .int .u64 v, .int .i64 k] w (Next1 w N (xs ++ be k v)) := by
  refine (rput_yes p n c xs w h (by omega) v hv k hk.1 hk.2).mono ?_
  rintro e w' ⟨u, rfl, ho, hb⟩
  have hl : (xs ++ be k v).length = N := by rw [List.length_append, be_len, h.len, hN]
  obtain ⟨p', c', rfl, hy⟩ := ho.bytN rfl hl (rng_append h.rng (be_rng _ _))
  exact ⟨p', c', rfl, hy, ho, hb⟩

/-- The result of Build. -/
def Built (w : World) (xs : List Int) (E : Int) (e : Ending) (w' : World) : Prop := ∃ p n c, e = .returned (.tuple #[.slice p n c, .int .i64 E]) ∧ Byt w' p n c xs ∧ Own w' w.heap.size 5 (.slice p n c) xs ∧ Below w.heap.size w w'

set_option maxHeartbeats 1600000 in
theorem build_any (i r n x f m len : Int) (w : World) (hi : 0 ≤ i ∧ i ≤ 18446744073709551615) (hr : 0 ≤ r ∧ r ≤ 18446744073709551615) (hm : 0 ≤ m ∧ m ≤ 4294967295) (hlen : -9223372036854775808 ≤ len ∧ len ≤ 9223372036854775807) :
    Calls Try.prog 17 #[.agg #[.int .u64 i, .int .u64 r, .int .i64 n, .int .i64 x, .int .i64 f, .int .u32 m], .int .i64 len] w (Built w (buildR i r n x f m len).1 (buildR i r n x f m len).2) := by
  have HB0 := hidden ((Below.refl w.heap.size w).alloc (Nat.le_refl _) (.cells #[.int .u64 i, .int .u64 r, .int .i64 n, .int .i64 x, .int .i64 f, .int .u32 m] 29))
  have HN0 := hidden (HdrIn.new w i r n x f m 29)
  have HC := hidden (fun w => check_any i r n x f m w)
  have hs0 : w.heap.size + 1 ≤ (w.alloc (.cells #[.int .u64 i, .int .u64 r, .int .i64 n, .int .i64 x, .int .i64 f, .int .u32 m] 29)).heap.size := by simp
  have HS0 := hidden hs0
  clear hs0
  rcases hz : checkR i r n x f m with z
  by_cases hz0 : z = 0
  case neg =>
    rw [buildR, if_pos (by rw [hz]; exact hz0), hz]
    rw [hz] at HC
    have hzb : (z != 0) = true := by simpa using hz0
    clear hz
    go_enter Try.func17, Try.ntmps17
    go_wp2_with (go_at_call 19; (with_reducible refine (HC.out _).mono ?_))
    rintro e w1 ⟨rfl, hb⟩
    have HB1 := hidden (HB0.out.trans (hb.mono HB0.out.size))
    clear hb
    go_wp2
    go_ret2
    exact ⟨none, 0, 0, rfl, Byt.nil _ _ _ (Nat.zero_le _), Own.nil _ _ _, HB1.out⟩
  subst hz0
  by_cases hl : len < 28 ∨ 8192 < len
  · rw [buildR, if_neg (by rw [hz]; simp), if_pos hl]
    rw [hz] at HC
    clear hz
    go_enter Try.func17, Try.ntmps17
    go_wp2_with (go_at_call 19; (with_reducible refine (HC.out _).mono ?_))
    rintro e w1 ⟨rfl, hb⟩
    have HB1 := hidden (HB0.out.trans (hb.mono HB0.out.size))
    clear hb
    go_wp2
    all_goals first | (exfalso; omega) | (go_ret2; exact ⟨none, 0, 0, rfl, Byt.nil _ _ _ (Nat.zero_le _), Own.nil _ _ _, HB1.out⟩)
  rw [buildR, if_neg (by rw [hz]; simp), if_neg hl]
  have hl1 : 28 ≤ len := by omega
  have hl2 : len ≤ 8192 := by omega
  clear hl
  rw [hz] at HC
  clear hz
  go_enter Try.func17, Try.ntmps17
  go_wp2_with (go_at_call 19; (with_reducible refine (HC.out _).mono ?_))
  rintro e w1 ⟨rfl, hb⟩
  have HB1 := hidden (HB0.out.trans (hb.mono HB0.out.size))
  have HN1 := hidden (HN0.out.below hb)
  clear hb HC HB0 HN0
  have HY1 := hidden (Byt.nil w1 none 0 (Nat.zero_le _))
  obtain ⟨c0, c1, c2, c3, c4, c5, cf⟩ := HN1.out

  go_wp2_with (go_at_call 28; (refine (put_next none 0 0 8 8 [] i _ HY1.out (by omega) hi (by omega) rfl).mono ?_))
  rintro e w2 ⟨p2, c2c, rfl, hy, ho, hb⟩
  have HB2 := hidden (HB1.out.trans (hb.mono HB1.out.size))
  have HN2 := hidden (HN1.out.below hb)
  obtain ⟨xs2, he2⟩ : ∃ v, v = [] ++ be 8 i := ⟨_, rfl⟩
  rw [← he2] at hy
  have HE2 := hidden he2
  have HY2 := hidden hy
  clear hb hy ho he2 c0 c1 c2 c3 c4 c5 cf HB1 HN1 HY1
  obtain ⟨c0, c1, c2, c3, c4, c5, cf⟩ := HN2.out
  go_wp2_with (go_at_call 28; (refine (put_next p2 8 c2c 8 16 xs2 r _ HY2.out (by omega) hr (by omega) rfl).mono ?_))
  rintro e w3 ⟨p3, c3c, rfl, hy, ho, hb⟩
  have HB3 := hidden (HB2.out.trans (hb.mono HB2.out.size))
  have HN3 := hidden (HN2.out.below hb)
  obtain ⟨xs3, he3⟩ : ∃ v, v = xs2 ++ be 8 r := ⟨_, rfl⟩
  rw [← he3] at hy
  have HE3 := hidden he3
  have HY3 := hidden hy
  clear hb hy ho he3 c0 c1 c2 c3 c4 c5 cf HB2 HN2 HY2
  obtain ⟨c0, c1, c2, c3, c4, c5, cf⟩ := HN3.out
  go_wp2_with (go_at_call 28; (refine (put_next p3 16 c3c 1 17 xs3 (IntKind.u64.wrap n) _ HY3.out (by omega) (by rw [IntKind.wrap_u64]; omega) (by omega) rfl).mono ?_))
  rintro e w4 ⟨p4, c4c, rfl, hy, ho, hb⟩
  have HB4 := hidden (HB3.out.trans (hb.mono HB3.out.size))
  have HN4 := hidden (HN3.out.below hb)
  obtain ⟨xs4, he4⟩ : ∃ v, v = xs3 ++ be 1 (IntKind.u64.wrap n) := ⟨_, rfl⟩
  rw [← he4] at hy
  have HE4 := hidden he4
  have HY4 := hidden hy
  clear hb hy ho he4 c0 c1 c2 c3 c4 c5 cf HB3 HN3 HY3
  obtain ⟨c0, c1, c2, c3, c4, c5, cf⟩ := HN4.out
  go_wp2_with (go_at_call 28; (refine (put_next p4 17 c4c 1 18 xs4 32 _ HY4.out (by omega) (by omega) (by omega) rfl).mono ?_))
  rintro e w5 ⟨p5, c5c, rfl, hy, ho, hb⟩
  have HB5 := hidden (HB4.out.trans (hb.mono HB4.out.size))
  have HN5 := hidden (HN4.out.below hb)
  obtain ⟨xs5, he5⟩ : ∃ v, v = xs4 ++ be 1 32 := ⟨_, rfl⟩
  rw [← he5] at hy
  have HE5 := hidden he5
  have HY5 := hidden hy
  clear hb hy ho he5 c0 c1 c2 c3 c4 c5 cf HB4 HN4 HY4
  obtain ⟨c0, c1, c2, c3, c4, c5, cf⟩ := HN5.out
  go_wp2_with (go_at_call 28; (refine (put_next p5 18 c5c 1 19 xs5 (IntKind.u64.wrap x) _ HY5.out (by omega) (by rw [IntKind.wrap_u64]; omega) (by omega) rfl).mono ?_))
  rintro e w6 ⟨p6, c6c, rfl, hy, ho, hb⟩
  have HB6 := hidden (HB5.out.trans (hb.mono HB5.out.size))
  have HN6 := hidden (HN5.out.below hb)
  obtain ⟨xs6, he6⟩ : ∃ v, v = xs5 ++ be 1 (IntKind.u64.wrap x) := ⟨_, rfl⟩
  rw [← he6] at hy
  have HE6 := hidden he6
  have HY6 := hidden hy
  clear hb hy ho he6 c0 c1 c2 c3 c4 c5 cf HB5 HN5 HY5
  obtain ⟨c0, c1, c2, c3, c4, c5, cf⟩ := HN6.out
  go_wp2_with (go_at_call 28; (refine (put_next p6 19 c6c 1 20 xs6 (IntKind.u64.wrap f) _ HY6.out (by omega) (by rw [IntKind.wrap_u64]; omega) (by omega) rfl).mono ?_))
  rintro e w7 ⟨p7, c7c, rfl, hy, ho, hb⟩
  have HB7 := hidden (HB6.out.trans (hb.mono HB6.out.size))
  have HN7 := hidden (HN6.out.below hb)
  obtain ⟨xs7, he7⟩ : ∃ v, v = xs6 ++ be 1 (IntKind.u64.wrap f) := ⟨_, rfl⟩
  rw [← he7] at hy
  have HE7 := hidden he7
  have HY7 := hidden hy
  clear hb hy ho he7 c0 c1 c2 c3 c4 c5 cf HB6 HN6 HY6
  obtain ⟨c0, c1, c2, c3, c4, c5, cf⟩ := HN7.out
  go_wp2_with (go_at_call 28; (refine (put_next p7 20 c7c 4 24 xs7 m _ HY7.out (by omega) (by omega) (by omega) rfl).mono ?_))
  rintro e w8 ⟨p8, c8c, rfl, hy, ho, hb⟩
  have HB8 := hidden (HB7.out.trans (hb.mono HB7.out.size))
  have HN8 := hidden (HN7.out.below hb)
  obtain ⟨xs8, he8⟩ : ∃ v, v = xs7 ++ be 4 m := ⟨_, rfl⟩
  rw [← he8] at hy
  have HE8 := hidden he8
  have HY8 := hidden hy
  clear hb hy ho he8 c0 c1 c2 c3 c4 c5 cf HB7 HN7 HY7
  obtain ⟨c0, c1, c2, c3, c4, c5, cf⟩ := HN8.out
  go_wp2_with (go_at_call 28; (refine (put_next p8 24 c8c 4 28 xs8 len _ HY8.out (by omega) (by omega) (by omega) rfl).mono ?_))
  rintro e w9 ⟨p9, c9c, rfl, hy, ho, hb⟩
  have HB9 := hidden (HB8.out.trans (hb.mono HB8.out.size))
  have HO := hidden (ho.mono HB8.out.size)
  have HY := hidden hy
  clear hb hy ho c0 c1 c2 c3 c4 c5 cf HB8 HN8 HY8
  go_wp2
  go_ret2
  have hfin : xs8 ++ be 4 len = hdrL i r n x f m len := by
    rw [HE8.out, HE7.out, HE6.out, HE5.out, HE4.out, HE3.out, HE2.out]
    simp only [hdrL, List.nil_append, List.append_assoc, be_one]
    simp only [IntKind.wrap_u64, List.cons_append, List.nil_append]
    rw [show n % 18446744073709551616 % 256 = n % 256 by omega, show x % 18446744073709551616 % 256 = x % 256 by omega, show f % 18446744073709551616 % 256 = f % 256 by omega]
    rfl
  exact ⟨_, _, _, rfl, by rw [← hfin]; exact HY.out, by rw [← hfin]; exact HO.out, HB9.out⟩


set_option maxHeartbeats 1600000 in
theorem rbuild_any (i r n x f m len : Int) (w : World) (hi : 0 ≤ i ∧ i ≤ 18446744073709551615) (hr : 0 ≤ r ∧ r ≤ 18446744073709551615) (hm : 0 ≤ m ∧ m ≤ 4294967295) (hlen : -9223372036854775808 ≤ len ∧ len ≤ 9223372036854775807) :
    Calls Try.prog 11 #[.agg #[.int .u64 i, .int .u64 r, .int .i64 n, .int .i64 x, .int .i64 f, .int .u32 m], .int .i64 len] w (Built w (buildR i r n x f m len).1 (buildR i r n x f m len).2) := by
  obtain ⟨i0, hi0, hz0', hz1, hz2⟩ := info_parts Try.infoByte
  have HB0 := hidden ((Below.refl w.heap.size w).alloc (Nat.le_refl _) (.cells #[.int .u64 i, .int .u64 r, .int .i64 n, .int .i64 x, .int .i64 f, .int .u32 m] 29))
  have HN0 := hidden (HdrIn.new w i r n x f m 29)
  have HC := hidden (fun w => rcheck_any i r n x f m w)
  rcases hz : checkR i r n x f m with z
  by_cases hz0 : z = 0
  case neg =>
    rw [buildR, if_pos (by rw [hz]; exact hz0), hz]
    rw [hz] at HC
    have hzb : (z != 0) = true := by simpa using hz0
    clear hz
    go_enter Try.func11, Try.ntmps11
    go_wp2_with (go_at_call 20; (with_reducible refine (HC.out _).mono ?_))
    rintro e w1 ⟨rfl, hb⟩
    have HB1 := hidden (HB0.out.trans (hb.mono HB0.out.size))
    clear hb
    go_wp2
    go_ret2
    exact ⟨none, 0, 0, rfl, Byt.nil _ _ _ (Nat.zero_le _), Own.nil _ _ _, HB1.out⟩
  subst hz0
  by_cases hl : len < 28 ∨ 8192 < len
  · rw [buildR, if_neg (by rw [hz]; simp), if_pos hl]
    rw [hz] at HC
    clear hz
    go_enter Try.func11, Try.ntmps11
    go_wp2_with (go_at_call 20; (with_reducible refine (HC.out _).mono ?_))
    rintro e w1 ⟨rfl, hb⟩
    have HB1 := hidden (HB0.out.trans (hb.mono HB0.out.size))
    clear hb
    go_wp2
    all_goals first | (exfalso; omega) | (go_ret2; exact ⟨none, 0, 0, rfl, Byt.nil _ _ _ (Nat.zero_le _), Own.nil _ _ _, HB1.out⟩)
  rw [buildR, if_neg (by rw [hz]; simp), if_neg hl]
  have hl1 : 28 ≤ len := by omega
  have hl2 : len ≤ 8192 := by omega
  clear hl
  rw [hz] at HC
  clear hz
  go_enter Try.func11, Try.ntmps11
  go_wp2_with (go_at_call 20; (with_reducible refine (HC.out _).mono ?_))
  rintro e w1 ⟨rfl, hb⟩
  have HB1 := hidden (HB0.out.trans (hb.mono HB0.out.size))
  have HN1 := hidden (HN0.out.below hb)
  clear hb HC HB0 HN0
  have HY1 := hidden (Byt.nil w1 none 0 (Nat.zero_le _))
  obtain ⟨c0, c1, c2, c3, c4, c5, cf⟩ := HN1.out
  go_wp2_with (go_at_call 25; (refine (rput_next none 0 0 8 8 [] i _ HY1.out (by omega) hi (by omega) rfl).mono ?_))
  rintro e w2 ⟨p2, c2c, rfl, hy, ho, hb⟩
  have HB2 := hidden (HB1.out.trans (hb.mono HB1.out.size))
  have HN2 := hidden (HN1.out.below hb)
  obtain ⟨xs2, he2⟩ : ∃ v, v = [] ++ be 8 i := ⟨_, rfl⟩
  rw [← he2] at hy
  have HE2 := hidden he2
  have HY2 := hidden hy
  clear hb hy ho he2 c0 c1 c2 c3 c4 c5 cf HB1 HN1 HY1
  obtain ⟨c0, c1, c2, c3, c4, c5, cf⟩ := HN2.out
  go_wp2_with (go_at_call 25; (refine (rput_next p2 8 c2c 8 16 xs2 r _ HY2.out (by omega) hr (by omega) rfl).mono ?_))
  rintro e w3 ⟨p3, c3c, rfl, hy, ho, hb⟩
  have HB3 := hidden (HB2.out.trans (hb.mono HB2.out.size))
  have HN3 := hidden (HN2.out.below hb)
  obtain ⟨xs3, he3⟩ : ∃ v, v = xs2 ++ be 8 r := ⟨_, rfl⟩
  rw [← he3] at hy ho
  have HE3 := hidden he3
  have HY3 := hidden hy
  have HO3 := hidden ho
  have hl3 : xs3.length = 16 := hy.len
  have hw2 := HN2.out.lt
  have hs2 := hb.size
  have HW2 := hidden HB2.out.size
  clear hb hy ho he3 c0 c1 c2 c3 c4 c5 cf HB2 HN2 HY2
  obtain ⟨c0, c1, c2, c3, c4, c5, cf⟩ := HN3.out
  go_wp2_with (at_builtin; go_loud (refine wpList_append_byt _ rfl _ _ 22 rfl w2.heap.size 5 i0 (.int .u8 0) Try.underlying22 hi0 hz0' hz1 hz2 rfl _ _ rfl (HO3.out.alloc _) _ _ _ _ [n % 256, 32, x % 256, f % 256] rfl ?c0 rfl ?c2 ?c3 ?_))
  case c0 => exact Byt.made w3 [n % 256, 32, x % 256, f % 256] 5 (by intro z hz; simp at hz; omega) (by simp)
  case c2 => omega
  case c3 => simp; omega
  intro u w4 hown hg
  have hb4 := ((Below.refl w2.heap.size w3).alloc hs2 (.cells ([n % 256, 32, x % 256, f % 256].map (Value.int .u8)).toArray 5)).grown hg (by simp; omega) (fun g hg => (HO3.out.lt g hg).1)
  have HB4 := hidden (HB3.out.trans (hb4.mono HW2.out))
  have hn4 := (HN3.out.alloc _).grown hg (fun e => by have := (HO3.out.lt w.heap.size e.symm).1; omega)
  obtain ⟨xs4, he4⟩ : ∃ v, v = xs3 ++ [n % 256, 32, x % 256, f % 256] := ⟨_, rfl⟩
  rw [← he4] at hown
  obtain ⟨p4, c4c, rfl, hy⟩ := hown.bytN rfl (show xs4.length = 20 by rw [he4]; simp [hl3]) (by rw [he4]; exact rng_append HY3.out.rng (by intro z hz; simp at hz; omega))
  have HE4 := hidden he4
  have HY4 := hidden hy
  have HN4 := hidden hn4
  clear hg hb4 hn4 hy he4 hown c0 c1 c2 c3 c4 c5 cf HB3 HN3 HY3 HO3 hl3 hw2 hs2 HW2
  obtain ⟨c0, c1, c2, c3, c4, c5, cf⟩ := HN4.out
  go_wp2_with (go_at_call 25; (refine (rput_next p4 20 c4c 4 24 xs4 m _ HY4.out (by omega) (by omega) (by omega) rfl).mono ?_))
  rintro e w5 ⟨p5, c5c, rfl, hy, ho, hb⟩
  have HB5 := hidden (HB4.out.trans (hb.mono HB4.out.size))
  obtain ⟨xs5, he5⟩ : ∃ v, v = xs4 ++ be 4 m := ⟨_, rfl⟩
  rw [← he5] at hy
  have HE5 := hidden he5
  have HY5 := hidden hy
  clear hb hy ho he5 c0 c1 c2 c3 c4 c5 cf HB4 HN4 HY4
  go_wp2_with (go_at_call 25; (refine (rput_next p5 24 c5c 4 28 xs5 len _ HY5.out (by omega) (by omega) (by omega) rfl).mono ?_))
  rintro e w6 ⟨p6, c6c, rfl, hy, ho, hb⟩
  have HB6 := hidden (HB5.out.trans (hb.mono HB5.out.size))
  have HO := hidden (ho.mono HB5.out.size)
  have HY := hidden hy
  clear hb hy ho HB5 HY5
  go_wp2
  go_ret2
  have hfin : xs5 ++ be 4 len = hdrL i r n x f m len := by
    rw [HE5.out, HE4.out, HE3.out, HE2.out]
    simp only [hdrL, List.nil_append, List.append_assoc]
  exact ⟨_, _, _, rfl, by rw [← hfin]; exact HY.out, by rw [← hfin]; exact HO.out, HB6.out⟩
end Go.Proofs.Ytjkeijkbekdjfaa
