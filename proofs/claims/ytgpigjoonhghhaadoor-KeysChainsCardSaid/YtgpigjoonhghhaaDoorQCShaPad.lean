/-
  sha256.Pad: what follows a message.
-/
import Derived.Test.YtgpigjoonhghhaaDoorQCShaMath
import Derived.Test.YtgpigjoonhghhaaDoorQCWPut
import Derived.Test.YtgpigjoonhghhaaDoorQCOwnB
namespace Go.Proofs.YtgpigjoonhghhaaDoor
open Go.RowKit
set_option linter.unusedVariables false
set_option maxHeartbeats 400000 in
set_option maxRecDepth 100000 in
theorem pad_any (n : Nat) (hn : n ≤ 1152921504606846975) (w : World) : Calls Tryd.prog 61 #[.int .i64 n] w (BytesPut w (padS n)) := by
  obtain ⟨i0, hi, hz0, hz1, hz2⟩ := info_parts Tryd.infoByte
  have h0 : ¬ (n : Int) < 0 := by omega
  have hzl := padZ_lt n
  have hz : (64 - ((n : Int) % 64 + 1 + 8) % 64) % 64 = (padZ n : Int) := by unfold padZ; omega
  have HE : Hid (padS n = ((List.replicate (padZ n + 1) 0).set 0 128) ++ be 8 ((n : Int) * 8)) := by
    unfold padS
    rw [List.replicate_succ, List.set_cons_zero]
    rfl
  have HR : Hid (∀ x ∈ (List.replicate (padZ n + 1) (0 : Int)).set 0 128, 0 ≤ x ∧ x ≤ 255) := rng_set (fun x hx => by rw [List.mem_replicate] at hx; omega) 0 (by omega)
  generalize padZ n = z at *
  have HZ := hidden hz
  go_enter Tryd.func61, Tryd.ntmps61
  go_wp2_with (first
    | (at_make; refine wpList_make_byt _ rfl _ _ 22 rfl w.heap.size 5 i0 Tryd.underlying22 hi hz0 hz1 hz2 _ _ _ _ (z + 1) (z + 1) rfl rfl ?m1 ?m2 ?m3 ?m4 (Nat.le_refl _) ?_)
    | fail)
  case m1 => omega
  case m2 => omega
  case m4 => omega
  intro w1 hown hg
  have hc := (hown.at_ (n := z + 1) (by simp) (by omega))
  obtain ⟨g, c, hv, _, hgl, hcell, hfr⟩ := hc
  simp only [Value.slice.injEq, Option.some.injEq, Addr.mk.injEq] at hv
  obtain ⟨⟨rfl, _⟩, _, rfl⟩ := hv
  have hc0 := hcell 0 (by omega)
  have hf0 := hfr 0
  have hset := hown.set (by simp) 0 128
  have HB := hidden (((Below.refl w.heap.size w).grown hg (Nat.le_refl _) (by simp)).setCell (p := ⟨w.heap.size, 0, none⟩) (Nat.le_refl _) (.int .u8 128))
  obtain ⟨p2, c2, hv2, hbyt⟩ := hset.bytN rfl (N := z + 1) (by simp) HR.out
  simp only [Value.slice.injEq] at hv2
  obtain ⟨rfl, _, rfl⟩ := hv2
  have hw : IntKind.u64.wrap (n : Int) = n := wraps_u64 _ (by omega) (by omega)
  have hw8 : (n : Int) * 8 % 18446744073709551616 = (n : Int) * 8 := by omega
  have HP : Hid (Calls Tryd.prog 39 #[.slice (some ⟨w.heap.size, 0, none⟩) (z + 1) (z + 1), .int .u64 ((n : Int) * 8), .int .i64 8] (w1.setCell ⟨w.heap.size, 0, none⟩ (.int .u8 128)) (BytesPut (w1.setCell ⟨w.heap.size, 0, none⟩ (.int .u8 128)) (padS n))) := by
    have := put_yes _ (z + 1) _ _ _ hbyt (by omega) ((n : Int) * 8) (by omega) 8 (by omega) (by omega)
    rw [← HE.out] at this
    exact this
  have hset' := hidden hset
  clear hset hown hg hcell hfr hbyt HE HR hz HZ
  go_wp2_with (first
    | (go_at_call 39; (with_reducible refine (HP.out).mono ?_); rintro e w' ⟨v, rfl, hown, hbel⟩)
    | fail)
  go_ret
  exact ⟨_, rfl, hown.mono (by simpa using HB.out.size), HB.out.trans (hbel.mono (by simpa using HB.out.size))⟩
end Go.Proofs.YtgpigjoonhghhaaDoor
