/-
  The law HeaderReturns, walked: it returns true for every input, and only adds memory of its own.
-/
import Derived.Test.YtjkeijkbekdjfaaHdrMath
import Derived.Test.YtjkeijkbekdjfaaZeros
namespace Go.Proofs.Ytjkeijkbekdjfaa
open Go.RowKit
set_option linter.unusedVariables false

/-- What the walk knows of the bytes: b as it was built, B with what follows, y with other bits. -/
structure FactsR (i r x f m minor flags : Int) (N : Nat) (L B : List Int) : Prop where
  built : buildR i r 0 x f m (28 + N) = (L, 0)
  grown : L ++ List.replicate N 0 = B
  len : L.length = 28
  lenB : B.length = 28 + N
  rng : ∀ z ∈ B, 0 ≤ z ∧ z ≤ 255
  read : parseR B = (⟨i, r, 0, x, f, m⟩, 0)
  c17 : B.getD 17 0 = 32
  c19b : B.getD 19 0 = f
  c19 : (B.set 17 (bits .or .u8 32 (minor % 16))).getD 19 0 = f
  again : parseR ((B.set 17 (bits .or .u8 32 (minor % 16))).set 19 (bits .or .u8 f (bits .andNot .u8 flags 56))) = (⟨i, r, 0, x, f, m⟩, 0)

theorem getD_split (u v : List Int) (y : Int) (a : Nat) (h : u.length = a) : (u ++ (y :: v)).getD a 0 = y := by
  subst h
  simp [List.getD_eq_getElem?_getD]
theorem msg_get17 (i r n z x g m len : Int) (zs : List Int) : (msg i r n z x g m len zs).getD 17 0 = z := by
  rw [msg_split i r n z x g m len zs [n] (z :: ([x, g] ++ (be 4 m ++ (be 4 len ++ zs)))) rfl]
  exact getD_split _ _ _ _ (pre_len _ _ _ _ rfl)
theorem msg_get19 (i r n z x g m len : Int) (zs : List Int) : (msg i r n z x g m len zs).getD 19 0 = g := by
  rw [msg_split i r n z x g m len zs [n, z, x] (g :: (be 4 m ++ (be 4 len ++ zs))) rfl]
  exact getD_split _ _ _ _ (pre_len _ _ _ _ rfl)
theorem msg_rng (i r n z x g m len : Int) (zs : List Int) (hn : 0 ≤ n ∧ n ≤ 255) (hz : 0 ≤ z ∧ z ≤ 255) (hx : 0 ≤ x ∧ x ≤ 255) (hg : 0 ≤ g ∧ g ≤ 255) (hs : ∀ y ∈ zs, 0 ≤ y ∧ y ≤ 255) : ∀ y ∈ msg i r n z x g m len zs, 0 ≤ y ∧ y ≤ 255 := by
  refine rng_append (be_rng _ _) (rng_append (be_rng _ _) (rng_append ?_ (rng_append (be_rng _ _) (rng_append (be_rng _ _) hs))))
  intro y hy
  simp at hy
  omega

theorem factsR (i r n x f m : Int) (h : Good i r n x f m) (minor flags : Int) (h1 : 0 ≤ minor ∧ minor ≤ 255) (h2 : 0 ≤ flags ∧ flags ≤ 255) (N : Nat) (hN : N < 40) : ∃ L B, FactsR i r x f m minor flags N L B := by
  have hn := h.gn
  subst hn
  have gf := h.gf
  have gx := h.gx
  have gm := h.gm
  have hz : ∀ y ∈ List.replicate N (0 : Int), 0 ≤ y ∧ y ≤ 255 := by
    intro y hy
    have := List.eq_of_mem_replicate hy
    omega
  refine ⟨hdrL i r 0 x f m (28 + N), msg i r 0 32 x f m (28 + N) (List.replicate N 0), h.built _ (by omega), h.bytes _ _, by simp [hdrL, be_len], by rw [msg_len]; simp, msg_rng _ _ _ _ _ _ _ _ _ (by omega) (by omega) (by omega) (by omega) hz, ?_, msg_get17 _ _ _ _ _ _ _ _ _, msg_get19 _ _ _ _ _ _ _ _ _, ?_, ?_⟩
  · exact msg_read i r 0 32 x f f m (28 + N) _ ⟨by have := h.gi; omega, h.gi.2⟩ h.gr (by omega) (by omega) (by omega) (flags_same f gf) h.check (by simp)
  · rw [msg_set17, msg_get19]
  · rw [msg_set17, msg_set19]
    exact msg_read i r 0 _ x _ f m (28 + N) _ ⟨by have := h.gi; omega, h.gi.2⟩ h.gr (by omega) (by omega) (minor_any minor h1) (flags_any f flags gf h2) h.check (by simp)

theorem header_val (W w : World) (k : Nat) (h : Cod W w k) :
    Calls Try.prog 9 #[.pointer (some ⟨k, 0, none⟩)] w fun e w' => ∃ i r n x f m : Int, e = .returned (.agg #[.int .u64 i, .int .u64 r, .int .i64 n, .int .i64 x, .int .i64 f, .int .u32 m]) ∧ Good i r n x f m ∧ Cod W w' k ∧ w.grownBy w' (some k) := header_any W w k h
theorem build_val (i r n x f m len : Int) (L : List Int) (E : Int) (hl : buildR i r n x f m len = (L, E)) (w : World) (hi : 0 ≤ i ∧ i ≤ 18446744073709551615) (hr : 0 ≤ r ∧ r ≤ 18446744073709551615) (hm : 0 ≤ m ∧ m ≤ 4294967295) (hlen : -9223372036854775808 ≤ len ∧ len ≤ 9223372036854775807) :
    Calls Try.prog 17 #[.agg #[.int .u64 i, .int .u64 r, .int .i64 n, .int .i64 x, .int .i64 f, .int .u32 m], .int .i64 len] w (Built w L E) := by
  have := build_any i r n x f m len w hi hr hm hlen
  rw [hl] at this
  exact this

set_option maxHeartbeats 1600000 in
set_option maxRecDepth 100000 in
theorem headerReturns_walk (p : Option Addr) (n c : Nat) (xs : List Int) (rest minor flags : Int) (w : World) (h : Byt w p n c xs) (b0 : c ≤ 140737488351232) (g1 : 0 ≤ rest ∧ rest ≤ 255) (g2 : 0 ≤ minor ∧ minor ≤ 255) (g3 : 0 ≤ flags ∧ flags ≤ 255) :
    Calls Try.prog 5 #[.slice p n c, .int .u8 rest, .int .u8 minor, .int .u8 flags] w fun e w' => e = .returned (.bool true) ∧ Below w.heap.size w w' := by
  obtain ⟨i0, hi0, hz0, hz1, hz2⟩ := info_parts Try.infoByte
  have HX := hidden h
  have HA := hidden (awake02_any w)
  obtain ⟨N, hN⟩ := Int.eq_ofNat_of_zero_le (Int.emod_nonneg rest (show (40 : Int) ≠ 0 by decide))
  have hN40 : N < 40 := by omega
  have hNt : rest.tmod 40 = (N : Int) := by rw [Int.tmod_eq_emod_of_nonneg g1.1]; exact hN
  have HF := hidden (fun i r n x f m h => factsR i r n x f m h minor flags g2 g3 N hN40)
  clear h hN
  go_enter Try.func5, Try.ntmps5
  go_wp2_with (go_at_call 7; (with_reducible refine (HA.out).mono ?_))
  rintro e w1 ⟨rfl, hb⟩
  have HB1 := hidden hb
  clear hb HA
  go_wp2_with (go_at_call 8; (refine (new_any w p n c xs w1 HX.out HB1.out 60 (by omega)).mono ?_))
  rintro e w2 ⟨rfl, hc, hb⟩
  have HC2 := hidden hc
  clear hc hb HB1 HX
  go_wp2_with (go_at_call 9; (with_reducible refine (header_val w w2 _ HC2.out).mono ?_))
  rintro e w3 ⟨i, r, hn, x, f, m, rfl, hgood, hc, hg⟩
  have hgn := hgood.gn
  subst hgn
  obtain ⟨L, B, hfacts⟩ := HF.out _ _ _ _ _ _ hgood
  have hgi := hgood.gi
  have hgr := hgood.gr
  have hgm := hgood.gm
  have F := hidden hfacts
  have HB3 := hidden hc.bel
  clear hc hg HC2 HF hgood hfacts
  have HN3 := hidden (HdrIn.new w3 i r 0 x f m 29)
  have HB3a := hidden (HB3.out.alloc HB3.out.size (.cells #[.int .u64 i, .int .u64 r, .int .i64 0, .int .i64 x, .int .i64 f, .int .u32 m] 29))
  go_wp2_with (go_at_call 17; (with_reducible refine (build_val i r 0 x f m (28 + (N : Int)) L 0 F.out.built _ ⟨by omega, hgi.2⟩ hgr ⟨hgm.1, by omega⟩ (by omega)).mono ?_))
  rintro e w4 ⟨p1, n1, c1, rfl, hy, ho, hb⟩
  obtain rfl : n1 = 28 := by rw [← hy.len]; exact F.out.len
  obtain ⟨g, c', he, hg0, hg1, _, _⟩ := ho.at_ F.out.len (by omega)
  simp at he
  obtain ⟨rfl, rfl⟩ := he
  have HN4 := hidden (HN3.out.below hb)
  have HB4 := hidden (HB3a.out.trans (hb.mono HB3a.out.size))
  have HO4 := hidden ho
  have hs3 := HB3.out.size
  have hg2 : w3.heap.size + 1 ≤ g := by simpa using hg0
  have hs4 := hb.size
  clear hy ho hb hg0 HN3 HB3 HB3a
  go_wp2_with (at_builtin; go_loud (refine wpList_append_zeros _ rfl _ _ 22 3 rfl _ 5 i0 Try.underlying22 Try.underlying3 hi0 hz0 hz1 hz2 g 28 c1 L rfl HO4.out F.out.len _ N rfl rfl (by omega) (by omega) hs4 ?_))
  intro v5 w5 hown hg
  rw [F.out.grown] at hown
  have hpos : 0 < 28 + N := by omega
  obtain ⟨g5, c5, rfl, hg5, hg5b, _, _⟩ := hown.at_ F.out.lenB hpos
  have hy5 := (hown.bytN rfl F.out.lenB F.out.rng)
  obtain ⟨_, _, he, hy⟩ := hy5
  simp at he
  obtain ⟨rfl, rfl⟩ := he
  have HY5 := hidden hy
  have HN5 := hidden (HN4.out.grown hg (by simp; omega))
  have HB5 := hidden (HB4.out.grown hg HB4.out.size (by intro k hk; simp at hk; omega))
  clear hown hg hy HN4 HB4 HO4 hs4 hg5b hg1
  have HP := hidden (fun w (h : Byt w (some ⟨g5, 0, none⟩) (28 + N) c5 B) => parse_val _ _ _ _ w h _ _ _ _ _ _ _ F.out.read)
  go_wp2_with (go_at_call 13; (with_reducible refine (HP.out _ HY5.out).mono ?_))
  rintro e w6 ⟨rfl, hb⟩
  have HX6 := hidden (HdrIn.new w6 i r 0 x f m 29)
  have HN6 := hidden ((HN5.out.below hb).alloc (.cells #[.int .u64 i, .int .u64 r, .int .i64 0, .int .i64 x, .int .i64 f, .int .u32 m] 29))
  have HY6 := hidden ((HY5.out.below hb).alloc (.cells #[.int .u64 i, .int .u64 r, .int .i64 0, .int .i64 x, .int .i64 f, .int .u32 m] 29))
  have hb6 := HB5.out.trans (hb.mono HB5.out.size)
  have HB6 := hidden (hb6.alloc hb6.size (.cells #[.int .u64 i, .int .u64 r, .int .i64 0, .int .i64 x, .int .i64 f, .int .u32 m] 29))
  have hn6 := (HN5.out.below hb).lt
  have hs6 := hb6.size
  clear hb hb6 HN5 HY5 HB5 HP
  go_wp2_with (at_builtin; go_loud (refine wpList_append_byt _ rfl _ _ 22 rfl (w6.heap.size + 1) 5 i0 (.int .u8 0) Try.underlying22 hi0 hz0 hz1 hz2 rfl _ _ rfl (Own.nil _ (w6.heap.size + 1) 5) _ _ _ _ _ rfl HY6.out rfl ?c1 ?c2 ?_))
  case c1 => first | omega | (simp; omega)
  case c2 => simp
  intro v7 w7 hown hg
  (try rw [List.nil_append] at hown)
  obtain ⟨g7, c7, rfl, hg7, hg7b, hcell, hfr⟩ := hown.at_ F.out.lenB hpos
  have k17 := hcell 17 (by omega)
  have k19 := hcell 19 (by omega)
  rw [F.out.c17] at k17
  rw [F.out.c19b] at k19
  have f17 := hfr 17
  have f19 := hfr 19
  have hcap : ∃ p c, Value.slice (some ⟨g7, 0, none⟩) (28 + N) c7 = .slice p (28 + N) c ∧ Byt w7 p (28 + N) c B := hown.bytN rfl F.out.lenB F.out.rng
  obtain ⟨_, _, he, hy⟩ := hcap
  simp at he
  obtain ⟨rfl, rfl⟩ := he
  have hcap7 := hy.cap
  have hset := (hown.set F.out.lenB 17 (bits .or .u8 32 (minor % 16))).set (by rw [List.length_set]; exact F.out.lenB) 19 (bits .or .u8 f (bits .andNot .u8 flags 56))
  have hset8 : ∃ p c, Value.slice (some ⟨g7, 0, none⟩) (28 + N) c7 = .slice p (28 + N) c ∧ Byt ((w7.setCell ⟨g7, 17, none⟩ (.int .u8 (bits .or .u8 32 (minor % 16)))).setCell ⟨g7, 19, none⟩ (.int .u8 (bits .or .u8 f (bits .andNot .u8 flags 56)))) p (28 + N) c ((B.set 17 (bits .or .u8 32 (minor % 16))).set 19 (bits .or .u8 f (bits .andNot .u8 flags 56))) := hset.bytN rfl (by rw [List.length_set, List.length_set]; exact F.out.lenB) (rng_set (rng_set F.out.rng 17 ⟨bits_lo_u8 _ _ _, bits_hi_u8 _ _ _⟩) 19 ⟨bits_lo_u8 _ _ _, bits_hi_u8 _ _ _⟩)
  obtain ⟨_, _, he, hy8⟩ := hset8
  simp at he
  obtain ⟨rfl, rfl⟩ := he
  have HY8 := hidden hy8
  have HX8 := hidden (((HX6.out.grown hg (by simp [Value.ownBlock])).set_ne g7 17 (.int .u8 (bits .or .u8 32 (minor % 16))) (by omega)).set_ne g7 19 (.int .u8 (bits .or .u8 f (bits .andNot .u8 flags 56))) (by omega))
  have HN8 := hidden (((HN6.out.grown hg (by simp [Value.ownBlock])).set_ne g7 17 (.int .u8 (bits .or .u8 32 (minor % 16))) (by omega)).set_ne g7 19 (.int .u8 (bits .or .u8 f (bits .andNot .u8 flags 56))) (by omega))
  have HB8 := hidden (((HB6.out.grown hg HB6.out.size (by intro k hk; simp [Value.ownBlock] at hk)).setCell (p := ⟨g7, 17, none⟩) (by simp; omega) (.int .u8 (bits .or .u8 32 (minor % 16)))).setCell (p := ⟨g7, 19, none⟩) (by simp; omega) (.int .u8 (bits .or .u8 f (bits .andNot .u8 flags 56))))
  have HP := hidden (fun w (h : Byt w (some ⟨g7, 0, none⟩) (28 + N) c7 ((B.set 17 (bits .or .u8 32 (minor % 16))).set 19 (bits .or .u8 f (bits .andNot .u8 flags 56)))) => parse_val _ _ _ _ w h _ _ _ _ _ _ _ F.out.again)
  clear hown hg hcell hfr hy hset hy8 HX6 HN6 HB6 HY6 hg7b
  go_wp2_with (go_at_call 13; (with_reducible refine (HP.out _ HY8.out).mono ?_))
  rintro e w9 ⟨rfl, hb⟩
  have HX9 := hidden ((HX8.out.below hb).alloc (.cells #[.int .u64 i, .int .u64 r, .int .i64 0, .int .i64 x, .int .i64 f, .int .u32 m] 29))
  have HN9 := hidden ((HN8.out.below hb).alloc (.cells #[.int .u64 i, .int .u64 r, .int .i64 0, .int .i64 x, .int .i64 f, .int .u32 m] 29))
  have hb9 := HB8.out.trans (hb.mono HB8.out.size)
  have HB9 := hidden (hb9.alloc hb9.size (.cells #[.int .u64 i, .int .u64 r, .int .i64 0, .int .i64 x, .int .i64 f, .int .u32 m] 29))
  clear hb hb9 HX8 HN8 HB8 HY8 HP k17 k19 f17 f19
  obtain ⟨q0, q1, q2, q3, q4, q5, qf⟩ := HX9.out
  obtain ⟨r0, r1, r2, r3, r4, r5, rf⟩ := HN9.out
  go_wp2
  go_ret
  exact ⟨rfl, HB9.out⟩
end Go.Proofs.Ytjkeijkbekdjfaa
