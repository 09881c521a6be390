/-
  The law HeaderCuts, walked: it returns true for every input, and only adds memory of its own.
-/
import Derived.Test.YtjkeijkbekdjfaaHeaderReturnsWalk
namespace Go.Proofs.Ytjkeijkbekdjfaa
open Go.RowKit
set_option linter.unusedVariables false

/-- What the walk knows of the bytes: b as it was built, B with what follows, K of them, and B with more. -/
structure FactsC (i r x f m : Int) (N M K : Nat) (ys L B : List Int) : Prop where
  built : buildR i r 0 x f m (28 + N) = (L, 0)
  grown : L ++ List.replicate N 0 = B
  len : L.length = 28
  lenB : B.length = M
  rng : ∀ z ∈ B, 0 ≤ z ∧ z ≤ 255
  short : K < 28 → parseR (B.take K) = (⟨0, 0, 0, 0, 0, 0⟩, 1)
  long : 28 ≤ K → parseR (B.take K) = (⟨0, 0, 0, 0, 0, 0⟩, 2)
  more : parseR (B ++ (ys ++ [0])) = (⟨0, 0, 0, 0, 0, 0⟩, 2)

theorem factsC (i r n x f m : Int) (h : Good i r n x f m) (N M K : Nat) (ys : List Int) (hN : N < 30) (hM : M = 28 + N) (hK : K < M) : ∃ L B, FactsC i r x f m N M K ys L B := by
  have hn := h.gn
  subst hn hM
  have gf := h.gf
  have gx := h.gx
  have gm := h.gm
  have hz : ∀ y ∈ List.replicate N (0 : Int), 0 ≤ y ∧ y ≤ 255 := by
    intro y hy
    have := List.eq_of_mem_replicate hy
    omega
  have hB : hdrL i r 0 x f m (28 + N) ++ List.replicate N 0 = msg i r 0 32 x f m (28 + N) (List.replicate N 0) := h.bytes _ _
  have hlen : (hdrL i r 0 x f m (28 + N)).length = 28 := by simp [hdrL, be_len]
  refine ⟨hdrL i r 0 x f m (28 + N), _, h.built _ (by omega), rfl, hlen, by rw [hB, msg_len]; simp, ?_, ?_, ?_, ?_⟩
  · rw [hB]
    exact msg_rng _ _ _ _ _ _ _ _ _ (by omega) (by omega) (by omega) (by omega) hz
  · intro h28
    exact short_read _ (by rw [List.length_take]; omega)
  · intro h28
    have : (hdrL i r 0 x f m (28 + N) ++ List.replicate N 0).take K = msg i r 0 32 x f m (28 + N) (List.replicate (K - 28) 0) := by
      rw [List.take_append, hlen, List.take_of_length_le (by omega), List.take_replicate, ← h.bytes]
      congr 2
      omega
    rw [this]
    exact msg_refused _ _ _ _ _ _ _ _ _ (by omega) (by omega) (by simp; omega)
  · have : hdrL i r 0 x f m (28 + N) ++ List.replicate N 0 ++ (ys ++ [0]) = msg i r 0 32 x f m (28 + N) (List.replicate N 0 ++ (ys ++ [0])) := by
      rw [← h.bytes]
      simp
    rw [this]
    exact msg_refused _ _ _ _ _ _ _ _ _ (by omega) (by omega) (by simp; omega)

set_option maxHeartbeats 1600000 in
set_option maxRecDepth 100000 in
theorem headerCuts_walk (p : Option Addr) (n c : Nat) (xs : List Int) (cut : Int) (q : Option Addr) (m d : Nat) (ys : List Int) (w : World) (h : Byt w p n c xs) (b0 : c ≤ 140737488351232) (g1 : 0 ≤ cut ∧ cut ≤ 255) (hq : Byt w q m d ys) (b1 : d ≤ 140737488351232) :
    Calls Try.prog 6 #[.slice p n c, .int .u8 cut, .slice q m d] w fun e w' => e = .returned (.bool true) ∧ Below w.heap.size w w' := by
  obtain ⟨i0, hi0, hz0, hz1, hz2⟩ := info_parts Try.infoByte
  have HX := hidden h
  have HQ := hidden hq
  have hmd := hq.cap
  have hle := hq.le
  have HA := hidden (awake02_any w)
  obtain ⟨N, hN⟩ := Int.eq_ofNat_of_zero_le (Int.emod_nonneg cut (show (30 : Int) ≠ 0 by decide))
  have hN30 : N < 30 := by omega
  have hNt : cut.tmod 30 = (N : Int) := by rw [Int.tmod_eq_emod_of_nonneg g1.1]; exact hN
  obtain ⟨M, hM⟩ : ∃ M, M = 28 + N := ⟨_, rfl⟩
  have hM1 : 28 ≤ M := by omega
  have hM2 : M < 58 := by omega
  obtain ⟨K, hK⟩ := Int.eq_ofNat_of_zero_le (Int.emod_nonneg cut (show (M : Int) ≠ 0 by omega))
  have hKM : K < M := by have := Int.emod_lt_of_pos cut (show (0 : Int) < M by omega); omega
  have hKt : cut.tmod (M : Int) = (K : Int) := by rw [Int.tmod_eq_emod_of_nonneg g1.1]; exact hK
  have HF := hidden (fun i r n x f m h => factsC i r n x f m h N M K ys hN30 hM hKM)
  have HM := hidden hM
  clear h hq hN hM hK
  go_enter Try.func6, Try.ntmps6
  go_wp2_with (go_at_call 7; (with_reducible refine (HA.out).mono ?_))
  rintro e w1 ⟨rfl, hb⟩
  have HB1 := hidden hb
  clear hb HA
  go_wp2_with (go_at_call 8; (refine (new_any w p n c xs w1 HX.out HB1.out 60 (by omega)).mono ?_))
  rintro e w2 ⟨rfl, hc, hb⟩
  have HC2 := hidden hc
  clear hc hb HB1 HX
  go_wp2_with (go_at_call 9; (with_reducible refine (header_val w w2 _ HC2.out).mono ?_))
  rintro e w3 ⟨i, r, hn, x, f, hm, rfl, hgood, hc, hg⟩
  have hgn := hgood.gn
  subst hgn
  obtain ⟨L, B, hfacts⟩ := HF.out _ _ _ _ _ _ hgood
  have hgi := hgood.gi
  have hgr := hgood.gr
  have hgm := hgood.gm
  have F := hidden hfacts
  have HB3 := hidden hc.bel
  clear hc hg HC2 HF hgood hfacts
  go_wp2_with (go_at_call 17; (with_reducible refine (build_val i r 0 x f hm (28 + (N : Int)) L 0 F.out.built _ ⟨by omega, hgi.2⟩ hgr ⟨hgm.1, by omega⟩ (by omega)).mono ?_))
  rintro e w4 ⟨p1, n1, c1, rfl, hy, ho, hb⟩
  obtain rfl : n1 = 28 := by rw [← hy.len]; exact F.out.len
  obtain ⟨g, c', he, hg0, hg1, _, _⟩ := ho.at_ F.out.len (by omega)
  simp at he
  obtain ⟨rfl, rfl⟩ := he
  have HB4 := hidden (HB3.out.trans (hb.mono HB3.out.size))
  have HO4 := hidden ho
  have hs3 := HB3.out.size
  have hs4 := hb.size
  clear hy ho hb HB3
  go_wp2_with (at_builtin; go_loud (refine wpList_append_zeros _ rfl _ _ 22 3 rfl _ 5 i0 Try.underlying22 Try.underlying3 hi0 hz0 hz1 hz2 g 28 c1 L rfl HO4.out F.out.len _ N rfl rfl (by omega) (by omega) hs4 ?_))
  intro v5 w5 hown hg
  rw [F.out.grown] at hown
  have hpos : 0 < M := by omega
  obtain ⟨g5, c5, rfl, hg5, hg5b, _, _⟩ := hown.at_ F.out.lenB hpos
  have hy5 : ∃ p c, Value.slice (some ⟨g5, 0, none⟩) M c5 = .slice p M c ∧ Byt w5 p M c B := hown.bytN rfl F.out.lenB F.out.rng
  obtain ⟨_, _, he, hy⟩ := hy5
  simp at he
  obtain ⟨rfl, rfl⟩ := he
  have hc5 := hy.cap
  have hcb5 := hy.big
  unfold maxLen at hcb5
  have HY5 := hidden hy
  have HB5 := hidden (HB4.out.grown hg HB4.out.size (by intro k hk; simp at hk; omega))
  clear hown hg hy HB4 HO4 hs4 hg5b hg1
  obtain ⟨E, hE⟩ : ∃ E : Int, parseR (B.take K) = (⟨0, 0, 0, 0, 0, 0⟩, E) ∧ (K < 28 ∧ E = 1 ∨ 28 ≤ K ∧ E = 2) := by
    rcases Nat.lt_or_ge K 28 with hk | hk
    · exact ⟨1, F.out.short hk, Or.inl ⟨hk, rfl⟩⟩
    · exact ⟨2, F.out.long hk, Or.inr ⟨hk, rfl⟩⟩
  have HE := hidden hE.1
  have HEK := hidden hE.2
  clear hE
  have HP := hidden (fun w (h : Byt w (some ⟨g5, 0, none⟩) K c5 (B.take K)) => parse_val _ _ _ _ w h _ _ _ _ _ _ _ HE.out)
  go_wp2_with (go_at_call 13; (with_reducible refine (HP.out _ (HY5.out.front K (by omega))).mono ?_))
  rintro e w6 ⟨rfl, hb⟩
  have HY6 := hidden ((HY5.out.below hb).alloc (.cells #[.int .u64 0, .int .u64 0, .int .i64 0, .int .i64 0, .int .i64 0, .int .u32 0] 29))
  have hb6 := HB5.out.trans (hb.mono HB5.out.size)
  have HB6 := hidden (hb6.alloc hb6.size (.cells #[.int .u64 0, .int .u64 0, .int .i64 0, .int .i64 0, .int .i64 0, .int .u32 0] 29))
  have hs6 := hb6.size
  clear hb hb6 HY5 HB5 HP HE
  go_wp2_with (at_builtin; go_loud (refine wpList_append_byt _ rfl _ _ 22 rfl (w6.heap.size + 1) 5 i0 (.int .u8 0) Try.underlying22 hi0 hz0 hz1 hz2 rfl _ _ rfl (Own.nil _ (w6.heap.size + 1) 5) _ _ _ _ _ rfl HY6.out rfl ?c1 ?c2 ?_))
  case c1 => first | omega | (simp; omega)
  case c2 => simp
  intro v7 w7 hown hg
  have hown7 : Own w7 (w6.heap.size + 1) 5 v7 B := hown
  have HB7 := hidden (HB6.out.grown hg HB6.out.size (by intro k hk; simp [Value.ownBlock] at hk))
  have HO7 := hidden hown7
  have hs7 := hg.size
  have HS7 := hidden (show w6.heap.size + 1 ≤ w7.heap.size by simpa using hs7)
  clear hown hown7 hg HB6 HY6 hs7
  go_wp2_with (at_builtin; go_loud (refine wpList_append_byt _ rfl _ _ 22 rfl (w6.heap.size + 1) 5 i0 (.int .u8 0) Try.underlying22 hi0 hz0 hz1 hz2 rfl _ _ rfl HO7.out _ _ _ _ _ rfl (HQ.out.below HB7.out) rfl ?c1 HS7.out ?_))
  case c1 => rw [F.out.lenB]; omega
  intro v8 w8 hown hg
  have HB8 := hidden (HB7.out.grown hg HB7.out.size (by intro k hk; have := (HO7.out.lt k hk).1; omega))
  have HO8 := hidden hown
  have HS8 := hidden (show w6.heap.size + 1 ≤ w8.heap.size from Nat.le_trans HS7.out hg.size)
  clear hown hg HB7 HO7 HS7
  go_wp2_with (at_builtin; go_loud (refine wpList_append_byt _ rfl _ _ 22 rfl (w6.heap.size + 1) 5 i0 (.int .u8 0) Try.underlying22 hi0 hz0 hz1 hz2 rfl _ _ rfl (HO8.out.alloc _) _ _ _ _ _ rfl (one_byte _ _ 0 (by omega) ?c0) rfl ?c1 ?c2 ?_))
  case c0 => rw [World.cell?_alloc_at _ _ _ _ rfl]; rfl
  case c1 => rw [List.length_append, F.out.lenB, HQ.out.len]; omega
  case c2 => have := HS8.out; simp; omega
  intro v9 w9 hown hg
  have HB9 := hidden ((HB8.out.alloc HB8.out.size _).grown hg (by have := HB8.out.size; simp; omega) (by intro k hk; have := (HO8.out.lt k hk).1; omega))
  obtain ⟨len9, hl9⟩ : ∃ l, (B ++ (ys ++ [0])).length = l := ⟨_, rfl⟩
  have hown9 : Own w9 (w6.heap.size + 1) 5 v9 (B ++ (ys ++ [0])) := by simpa using hown
  obtain ⟨p9, c9, rfl, hy9⟩ := hown9.bytN rfl hl9 (rng_append F.out.rng (rng_append HQ.out.rng (by intro z hz; simp at hz; omega)))
  have HY9 := hidden hy9
  clear hown hown9 hg hy9 hl9 HB8 HO8 HS8
  have HP := hidden (fun w (h : Byt w p9 len9 c9 (B ++ (ys ++ [0]))) => parse_val _ _ _ _ w h _ _ _ _ _ _ _ F.out.more)
  go_wp2_with (go_at_call 13; (with_reducible refine (HP.out _ HY9.out).mono ?_))
  rintro e w10 ⟨rfl, hb⟩
  have hb10 := HB9.out.trans (hb.mono HB9.out.size)
  have HB10 := hidden (hb10.alloc hb10.size (.cells #[.int .u64 0, .int .u64 0, .int .i64 0, .int .i64 0, .int .i64 0, .int .u32 0] 29))
  clear hb hb10 HB9 HY9 HP
  rcases HEK.out with ⟨hk, rfl⟩ | ⟨hk, rfl⟩
  · go_wp2
    go_ret
    exact ⟨rfl, HB10.out⟩
  · have hk' : ¬ ((K : Int) < 28) := by omega
    go_wp2
    go_ret
    exact ⟨rfl, HB10.out⟩
end Go.Proofs.Ytjkeijkbekdjfaa
