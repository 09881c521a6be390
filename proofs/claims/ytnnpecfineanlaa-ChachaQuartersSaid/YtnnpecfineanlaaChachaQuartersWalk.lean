/-
  The law ChachaQuarters, walked: it returns true for every input.
-/
import Derived.Test.YtnnpecfineanlaaChaQ
namespace Go.Proofs.Ytnnpecfineanlaa
open Go.RowKit
set_option linter.unusedVariables false

theorem quarter_back (a b c d : Int) (ha : 0 ≤ a ∧ a < 4294967296) (hb : 0 ≤ b ∧ b < 4294967296) (hc : 0 ≤ c ∧ c < 4294967296) (hd : 0 ≤ d ∧ d < 4294967296) :
    ∃ a2 b2 c2 d2 b1 c1 d1 a1 u1 u2 u3 u4 : Int, quarter ⟨a, b, c, d⟩ = ⟨a2, b2, c2, d2⟩ ∧ bits .or .u32 (b2 / 128) (b2 * 33554432 % 4294967296) = u1 ∧ bits .xor .u32 u1 c2 = b1 ∧ (c2 - d2) % 4294967296 = c1 ∧
      bits .or .u32 (d2 / 256) (d2 * 16777216 % 4294967296) = u2 ∧ bits .xor .u32 u2 a2 = d1 ∧ (a2 - b1) % 4294967296 = a1 ∧
      bits .or .u32 (b1 / 4096) (b1 * 1048576 % 4294967296) = u3 ∧ bits .xor .u32 u3 c1 = b ∧ (c1 - d1) % 4294967296 = c ∧
      bits .or .u32 (d1 / 65536) (d1 * 65536 % 4294967296) = u4 ∧ bits .xor .u32 u4 a1 = d ∧ (a1 - b) % 4294967296 = a := by
  obtain ⟨a1, ha1⟩ : ∃ x, (a + b) % 4294967296 = x := ⟨_, rfl⟩
  obtain ⟨u4, hu4⟩ : ∃ x, bits .xor .u32 d a1 = x := ⟨_, rfl⟩
  obtain ⟨d1, hd1⟩ : ∃ x, rotl u4 16 = x := ⟨_, rfl⟩
  obtain ⟨c1, hc1⟩ : ∃ x, (c + d1) % 4294967296 = x := ⟨_, rfl⟩
  obtain ⟨u3, hu3⟩ : ∃ x, bits .xor .u32 b c1 = x := ⟨_, rfl⟩
  obtain ⟨b1, hb1⟩ : ∃ x, rotl u3 12 = x := ⟨_, rfl⟩
  obtain ⟨a2, ha2⟩ : ∃ x, (a + b + b1) % 4294967296 = x := ⟨_, rfl⟩
  obtain ⟨u2, hu2⟩ : ∃ x, bits .xor .u32 d1 a2 = x := ⟨_, rfl⟩
  obtain ⟨d2, hd2⟩ : ∃ x, rotl u2 8 = x := ⟨_, rfl⟩
  obtain ⟨c2, hc2⟩ : ∃ x, (c + d1 + d2) % 4294967296 = x := ⟨_, rfl⟩
  obtain ⟨u1, hu1⟩ : ∃ x, bits .xor .u32 b1 c2 = x := ⟨_, rfl⟩
  obtain ⟨b2, hb2⟩ : ∃ x, rotl u1 7 = x := ⟨_, rfl⟩
  have r4 : 0 ≤ u4 ∧ u4 < 4294967296 := by rw [← hu4]; exact xorc_rng _ _
  have r3 : 0 ≤ u3 ∧ u3 < 4294967296 := by rw [← hu3]; exact xorc_rng _ _
  have r2 : 0 ≤ u2 ∧ u2 < 4294967296 := by rw [← hu2]; exact xorc_rng _ _
  have r1 : 0 ≤ u1 ∧ u1 < 4294967296 := by rw [← hu1]; exact xorc_rng _ _
  have rb : 0 ≤ b1 ∧ b1 < 4294967296 := by rw [← hb1]; exact rotl_rng _ _
  have rd : 0 ≤ d1 ∧ d1 < 4294967296 := by rw [← hd1]; exact rotl_rng _ _
  refine ⟨a2, b2, c2, d2, b1, c1, d1, a1, u1, u2, u3, u4, ?_, ?_, ?_, ?_, ?_, ?_, ?_, ?_, ?_, ?_, ?_, ?_, ?_⟩
  · simp only [quarter, ha1, hu4, hd1, hc1, hu3, hb1, ha2, hu2, hd2, hc2, hu1, hb2]
  · rw [← hb2]; exact back7 u1 r1
  · rw [← hu1]; exact xorc_back _ _ rb
  · omega
  · rw [← hd2]; exact back8 u2 r2
  · rw [← hu2]; exact xorc_back _ _ rd
  · omega
  · rw [← hb1]; exact back12 u3 r3
  · rw [← hu3]; exact xorc_back _ _ hb
  · omega
  · rw [← hd1]; exact back16 u4 r4
  · rw [← hu4]; exact xorc_back _ _ hd
  · omega

set_option maxHeartbeats 1600000 in
set_option maxRecDepth 100000 in
theorem chachaQuarters_walk (a b c d : Int) (w : World) (ha : 0 ≤ a ∧ a ≤ 4294967295) (hb : 0 ≤ b ∧ b ≤ 4294967295) (hc : 0 ≤ c ∧ c ≤ 4294967295) (hd : 0 ≤ d ∧ d ≤ 4294967295) :
    Calls Try.prog 3 #[.int .u32 a, .int .u32 b, .int .u32 c, .int .u32 d] w fun e w' => e = .returned (.bool true) ∧ Below w.heap.size w w' := by
  obtain ⟨a2, b2, c2, d2, b1, c1, d1, a1, u1, u2, u3, u4, hq, e1, e2, e3, e4, e5, e6, e7, e8, e9, e10, e11, e12⟩ := quarter_back a b c d ⟨ha.1, by omega⟩ ⟨hb.1, by omega⟩ ⟨hc.1, by omega⟩ ⟨hd.1, by omega⟩
  have HA := hidden (awake10_any w)
  have HQ := hidden (fun W => quarter_any a b c d W)
  have HR := hidden (fun W => rquarter_any a b c d W)
  rw [hq] at HQ HR
  clear hq ha hb hc hd
  go_enter Try.func3, Try.ntmps3
  go_wp2_with (first
    | (go_at_call 4; (with_reducible refine (HA.out).mono ?_); rintro e w1 ⟨rfl, hbl⟩; have HB := hidden hbl; clear hbl)
    | (go_at_call 5; (with_reducible refine (HQ.out _).mono ?_); rintro e w' ⟨rfl, rfl⟩; simp only [encW])
    | (go_at_call 6; (with_reducible refine (HR.out _).mono ?_); rintro e w' ⟨rfl, rfl⟩; simp only [encW])
    | fail)
  go_ret
  exact ⟨rfl, HB.out⟩
end Go.Proofs.Ytnnpecfineanlaa
