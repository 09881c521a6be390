/-
  poly1305.numberOf: the number of some bytes, the lowest one first.
-/
import Derived.Test.YtnbpangegegccaaPolyCarry
import Derived.Deep.RegionHeld3
import Derived.Deep.Cut
import Derived.Deep.CutRange
namespace Go.Proofs.Ytnbpangegegccaa
open Go.RowKit
set_option linter.unusedVariables false

theorem five (L : List Int) (h : L.length = 5) : ∃ a b c d e, L = [a, b, c, d, e] := by
  match L, h with
  | [a, b, c, d, e], _ => exact ⟨a, b, c, d, e, rfl⟩
/-- Five limbs, the first one below u, the others below v. -/
structure Lm (u v : Int) (L : List Int) : Prop where
  len : L.length = 5
  fst : 0 ≤ L.getD 0 0 ∧ L.getD 0 0 < u
  rest : ∀ j, 1 ≤ j → j < 5 → 0 ≤ L.getD j 0 ∧ L.getD j 0 < v
theorem Lm.all {u v : Int} {L : List Int} (h : Lm u v L) (m : Int) (hu : u ≤ m) (hv : v ≤ m) : ∀ x ∈ L, 0 ≤ x ∧ x < m := by
  obtain ⟨a, b, c, d, e, rfl⟩ := five L h.len
  have h0 := h.fst
  have h1 := h.rest 1 (by omega) (by omega)
  have h2 := h.rest 2 (by omega) (by omega)
  have h3 := h.rest 3 (by omega) (by omega)
  have h4 := h.rest 4 (by omega) (by omega)
  simp at h0 h1 h2 h3 h4
  intro x hx
  simp at hx
  rcases hx with rfl | rfl | rfl | rfl | rfl <;> omega
theorem Lm.of (a b c d e u v : Int) (h0 : 0 ≤ a ∧ a < u) (h1 : 0 ≤ b ∧ b < v) (h2 : 0 ≤ c ∧ c < v) (h3 : 0 ≤ d ∧ d < v) (h4 : 0 ≤ e ∧ e < v) : Lm u v [a, b, c, d, e] :=
  ⟨rfl, h0, fun j hj hk => by
    have : j = 1 ∨ j = 2 ∨ j = 3 ∨ j = 4 := by omega
    rcases this with rfl | rfl | rfl | rfl
    · exact h1
    · exact h2
    · exact h3
    · exact h4⟩
theorem num5 (a b c d e : Int) : num B26 [a, b, c, d, e] = a + 67108864 * b + 4503599627370496 * c + 302231454903657293676544 * d + 20282409603651670423947251286016 * e := by
  simp only [num, B26]; omega
theorem B265 : B26 ^ 5 = 1361129467683753853853498429727072845824 := by decide
theorem carried_num (L : List Int) : num B26 (carriedL L) = num B26 L - num B26 L / 1361129467683753853853498429727072845824 * P130 := by
  unfold carriedL
  rw [num_set B26 _ 0 (by rw [dig_len]; omega), num_dig B26 B26_pos, B265, Int.pow_zero]
  have := Int.mul_ediv_add_emod (num B26 L) 1361129467683753853853498429727072845824
  unfold P130
  omega
theorem carried_lm (L : List Int) (m : Int) (h0 : 0 ≤ num B26 L) (h1 : num B26 L < (m + 1) * 1361129467683753853853498429727072845824) : Lm (67108864 + 5 * m) 67108864 (carriedL L) := by
  unfold carriedL
  rw [B265]
  have hk : 0 ≤ num B26 L / 1361129467683753853853498429727072845824 ∧ num B26 L / 1361129467683753853853498429727072845824 ≤ m := by omega
  generalize num B26 L / 1361129467683753853853498429727072845824 = k at *
  have hr := dig_rng B26 B26_pos 5 (num B26 L)
  obtain ⟨a, b, c, d, e, he⟩ := five _ (dig_len B26 5 (num B26 L))
  rw [he] at hr ⊢
  have ha := hr a (by simp)
  have hb := hr b (by simp)
  have hc := hr c (by simp)
  have hd := hr d (by simp)
  have he := hr e (by simp)
  unfold B26 at *
  exact Lm.of _ _ _ _ _ _ _ (by simp; omega) hb hc hd he
/-- A byte comes into its limb. -/
theorem num_byte (j : Nat) (hj : j < 16) (L : List Int) (hL : L.length = 5) (x : Int) : num B26 (L.set (8 * j / 26) (L.getD (8 * j / 26) 0 + x * 2 ^ (8 * j % 26))) = num B26 L + 256 ^ j * x := by
  rw [num_set _ _ _ (by omega)]
  have : j = 0 ∨ j = 1 ∨ j = 2 ∨ j = 3 ∨ j = 4 ∨ j = 5 ∨ j = 6 ∨ j = 7 ∨ j = 8 ∨ j = 9 ∨ j = 10 ∨ j = 11 ∨ j = 12 ∨ j = 13 ∨ j = 14 ∨ j = 15 := by omega
  unfold B26
  rcases this with rfl | rfl | rfl | rfl | rfl | rfl | rfl | rfl | rfl | rfl | rfl | rfl | rfl | rfl | rfl | rfl <;> simp <;> omega
theorem pow_small (n : Nat) (h : n < 26) : 1 ≤ (2 : Int) ^ n ∧ (2 : Int) ^ n ≤ 33554432 := by
  have : ∀ k : Fin 26, 1 ≤ (2 : Int) ^ k.val ∧ (2 : Int) ^ k.val ≤ 33554432 := by decide
  exact this ⟨n, h⟩
theorem mul_small (x p : Int) (hx : 0 ≤ x ∧ x ≤ 255) (hp : 1 ≤ p ∧ p ≤ 33554432) : 0 ≤ x * p ∧ x * p ≤ 8556380160 := by
  refine ⟨Int.mul_nonneg hx.1 (by omega), ?_⟩
  have h1 : x * p ≤ 255 * p := Int.mul_le_mul_of_nonneg_right hx.2 (by omega)
  omega

set_option maxHeartbeats 1600000 in
set_option maxRecDepth 100000 in
theorem numberOf_any (p : Option Addr) (n c : Nat) (xs : List Int) (w : World) (h : Byt w p n c xs) (hn : n ≤ 16) :
    Calls Try.prog 17 #[.slice p n c] w fun e w' => ∃ L, e = .returned (.agg (ints .u64 L)) ∧ Lm 67108864 67108864 L ∧ num B26 L = num 256 xs ∧ Below w.heap.size w w' := by
  have HLN := Is.mk h.len
  have hcap := h.cap
  have hbig := h.le
  have HR := hidden h.rng
  have HC := hidden (fun j (hj : j < n) => (show ∃ b o, p = some ⟨b, o, none⟩ ∧ w.cell? ⟨b, o + j, none⟩ = some (.int .u8 (xs.getD j 0)) by
    obtain ⟨b, o, e, hc⟩ := h.at_ (by omega)
    exact ⟨b, o, e, hc j hj⟩))
  clear h
  go_enter Try.func17, Try.ntmps17
  go_upto_region 2 with fail
  generalize hw1 : World.alloc _ (.cells _ 44) = w1
  have hZ : Wn .u64 w1 w.heap.size 44 (List.replicate 5 0) := by
    rw [← hw1]
    exact (Wn.new .u64 w 44 (List.replicate 5 0) _ rfl).alloc _
  have hA : Wn .u64 w1 (w.heap.size + 1) 44 [0, 0, 0, 0, 0] := by
    rw [← hw1]
    exact Wn.new' .u64 _ 44 [0, 0, 0, 0, 0] _ rfl _ (by simp)
  have hb : Below w.heap.size w w1 := by
    rw [← hw1]
    exact ((Below.refl _ w).alloc (Nat.le_refl _) _).alloc (by simp) _
  clear hw1
  obtain ⟨g, hg⟩ : ∃ g, w.heap.size = g := ⟨_, rfl⟩
  simp only [hg] at hA hZ hb ⊢
  have HG := hidden hg
  have HA0 := hidden hA
  have HZ0 := hidden hZ
  have HB0 := hidden hb
  have HL0 : Hid (∀ x ∈ ([0, 0, 0, 0, 0] : List Int), 0 ≤ x ∧ x ≤ 8556380160 * ((0 : Nat) : Int)) := by show ∀ x ∈ ([0, 0, 0, 0, 0] : List Int), 0 ≤ x ∧ x ≤ 8556380160 * ((0 : Nat) : Int); simp
  have HN0 : Is (num B26 [0, 0, 0, 0, 0]) (num 256 (xs.take 0)) := ⟨by simp [num]⟩
  clear hA hZ hb hg
  go_wp2
  go_loopw [8] (fun i wr => ∃ (j : Nat) (S : List Int), j ≤ n ∧ i = .int .i64 j ∧ S.length = 5 ∧ Wn .u64 wr (g + 1) 44 S ∧ (∀ x ∈ S, 0 ≤ x ∧ x ≤ 8556380160 * (j : Int)) ∧ Is (num B26 S) (num 256 (xs.take j)) ∧ Wn .u64 wr g 44 (List.replicate 5 0) ∧ Below g w wr) (fun i _ => n - (intOf i).toNat)
  case atStart => exact ⟨0, [0, 0, 0, 0, 0], by omega, rfl, rfl, HA0.out, HL0.out, HN0, HZ0.out, HB0.out⟩
  case round =>
    obtain ⟨j, S, hj, rfl, hSl, ha, hs, HNS, hz, hb⟩ := hrel
    have HA := hidden ha
    have HZ := hidden hz
    have HB := hidden hb
    have HS := hidden hs
    have HSL := Is.mk hSl
    clear ha hz hb HA0 HZ0 HB0 hs hSl HL0 HN0
    by_cases hlt : j < n
    · obtain ⟨b, o, rfl, hc⟩ := HC.out j hlt
      have hcell := cell_below (by rw [HG.out]; exact HB.out) _ _ hc
      have hrx := rng_getD HR.out j
      have hcx := HA.out.cell (8 * j / 26) (by rw [HSL.eq]; omega)
      have hfx := HA.out.fr (8 * j / 26)
      have hsx := HS.out (S.getD (8 * j / 26) 0) (by rw [List.getD_eq_getElem?_getD]; simp [show 8 * j / 26 < S.length by rw [HSL.eq]; omega])
      have HST := Is.mk (num_byte j (by omega) S HSL.eq (xs.getD j 0))
      have HTK := Is.mk (num_take 256 xs j (by rw [HLN.eq]; exact hlt))
      generalize S.getD (8 * j / 26) 0 = s at *
      generalize xs.getD j 0 = x at *
      have hmx := mul_small x (2 ^ (8 * j % 26)) hrx (pow_small (8 * j % 26) (by omega))
      have HMX := hidden hmx
      have w0 : IntKind.u64.wrap (x * 2 ^ (8 * j % 26)) = x * 2 ^ (8 * j % 26) := by rw [IntKind.wrap_u64]; omega
      have w1 : IntKind.u64.wrap (s + x * 2 ^ (8 * j % 26)) = s + x * 2 ^ (8 * j % 26) := by rw [IntKind.wrap_u64]; omega
      have HSX := hidden hsx
      clear hmx
      go_upto_region 5 with fail
      go_region
      have HV := hidden (show 0 ≤ s + x * 2 ^ (8 * j % 26) ∧ s + x * 2 ^ (8 * j % 26) ≤ 8556380160 * ((j + 1 : Nat) : Int) by have := HMX.out; have := HSX.out; omega)
      have HA2 : Hid (Wn .u64 ((wr.setCell ⟨g + 1, 8 * j / 26, none⟩ (.int .u64 (s + x * 2 ^ (8 * j % 26)))).drew) (g + 1) 44 (S.set (8 * j / 26) (s + x * 2 ^ (8 * j % 26)))) := (HA.out.set _ _).drew
      have HZ2 : Hid (Wn .u64 ((wr.setCell ⟨g + 1, 8 * j / 26, none⟩ (.int .u64 (s + x * 2 ^ (8 * j % 26)))).drew) g 44 (List.replicate 5 0)) := (HZ.out.other _ _ (by simp)).drew
      have HB2 : Hid (Below g w ((wr.setCell ⟨g + 1, 8 * j / 26, none⟩ (.int .u64 (s + x * 2 ^ (8 * j % 26)))).drew)) := (HB.out.setCell (by simp) _).drew
      clear w0 w1
      generalize s + x * 2 ^ (8 * j % 26) = d at *
      generalize World.drew _ = w3 at *
      go_wp2
      go_roundw
      case rel =>
        refine ⟨j + 1, S.set (8 * j / 26) d, by omega, by go_num, by rw [List.length_set, HSL.eq], HA2.out, fun y hy => ?_, ⟨by rw [HST.eq, HTK.eq, HNS.eq]⟩, HZ2.out, HB2.out⟩
        rcases List.mem_or_eq_of_mem_set hy with hy | rfl
        · have := HS.out y hy; omega
        · exact HV.out
      case measure => simp [intOf]; omega
    · have hjn : j = n := by omega
      have hge : ¬ (j : Int) < (n : Int) := by omega
      have hSr : ∀ x ∈ S, 0 ≤ x ∧ x < 4611686018427387904 := fun x hx => by have := HS.out x hx; omega
      have HCC := hidden (fun W (hW : Below g w W) => carried_any S HSL.eq hSr W)
      have hx16 : 0 ≤ num 256 xs ∧ num 256 xs < 340282366920938463463374607431768211456 := by
        have h1 : ∀ x ∈ xs, 0 ≤ x ∧ x < 256 := fun x hx => by have := HR.out x hx; omega
        have h2 := num_lt (b := 256) (by omega) xs h1
        have h3 := num_nonneg (b := 256) (by omega) xs (fun x hx => (h1 x hx).1)
        have h4 : (256 : Int) ^ xs.length ≤ 256 ^ 16 := by
          have : ∀ k : Fin 17, (256 : Int) ^ k.val ≤ 256 ^ 16 := by decide
          exact this ⟨xs.length, by rw [HLN.eq]; omega⟩
        have h5 : (256 : Int) ^ 16 = 340282366920938463463374607431768211456 := by decide
        omega
      have hNe : num B26 S = num 256 xs := by rw [HNS.eq, List.take_of_length_le (by rw [HLN.eq]; omega)]
      have HLM := hidden (carried_lm S 0 (by omega) (by omega))
      have HNM := Is.mk (carried_num S)
      rw [hNe, Int.ediv_eq_zero_of_lt hx16.1 (by omega), Int.zero_mul, Int.sub_zero] at HNM
      have HRL := Is.mk (carriedL_len S)
      have HIS := hidden (infoL S HSL.eq)
      generalize carriedL S = R at *
      have HIR := hidden (infoL R HRL.eq)
      have HZR : Hid ((ints .u64 (List.replicate 5 (0 : Int))).size = (ints .u64 R).size) := by show _ = _; rw [ints_size, ints_size, HRL.eq]; rfl
      have HONER := hidden (onek .u64 R)
      clear hSr hx16 hNe hjn
      go_wp2_with (first
        | (refine wpList_load_row rfl 44 _ rfl (g + 1) rfl 44 _ (0, 0) _ HA.out.heap Try.underlying44 rfl HIS.out ?_)
        | (go_at_call 30; (with_reducible refine (HCC.out wr HB.out).mono ?_); rintro e w4 ⟨rfl, hb4⟩; have HZ4 := hidden (HZ.out.below hb4); have HB4 := hidden (HB.out.trans (hb4.mono (Nat.le_of_lt HZ.out.lt))); clear hb4)
        | (refine wpList_store_row rfl 44 _ _ rfl g (ints .u64 R) rfl rfl 44 _ HZ4.out.heap HIR.out HZR.out HONER.out ?_)
        | fail)
      refine bodyPost_ret (results_cell_row rfl _ _ g 44 _ _ _ rfl (HZ4.out.row R).heap Try.underlying44 rfl HIR.out) rfl ?_
      exact ⟨R, rfl, HLM.out, HNM.eq, by rw [HG.out]; exact below_setRow HB4.out (Nat.le_refl _) _⟩
end Go.Proofs.Ytnbpangegegccaa
