/-
  What the document's own Put returns, for every slice of bytes, number and width.
  The document's Pad: what follows a message.
-/
import Derived.Test.YtgpigjoonhghhaaDoorQDInfoB
import Derived.Test.YtgpigjoonhghhaaDoorQDNum
import Derived.Test.YtgpigjoonhghhaaDoorQDShaWd
import Derived.Test.YtgpigjoonhghhaaDoorQDOwnB
namespace Go.Proofs.YtgpigjoonhghhaaDoor
open Go.RowKit
set_option linter.unusedVariables false
def BytesNew (w : World) (xs : List Int) (e : Ending) (w' : World) : Prop := ∃ v, e = .returned v ∧ Own w' w.heap.size 5 v xs ∧ Below w.heap.size w w'
set_option maxHeartbeats 400000 in
set_option maxRecDepth 100000 in
theorem rput_yes (p : Option Addr) (n c : Nat) (xs : List Int) (w : World) (h : Byt w p n c xs) (hb : n ≤ 140737488355000) (v : Int) (hv : 0 ≤ v ∧ v ≤ 18446744073709551615) (k : Nat) (h1 : 1 ≤ k) (h8 : k ≤ 8) :
    Calls Tryd.prog 32 #[.slice p n c, .int .u64 v, .int .i64 k] w (BytesNew w (xs ++ be k v)) := by
  have hn := h.le
  have hl := h.len
  obtain ⟨i0, hi, hz0, hz1, hz2⟩ := info_parts Tryd.infoByte
  have H := hidden h
  clear h
  go_enter Tryd.func32, Tryd.ntmps32
  go_wp2_with (at_builtin; refine wpList_append_byt _ rfl _ _ 22 rfl w.heap.size 5 i0 (.int .u8 0) Tryd.underlying22 hi hz0 hz1 hz2 rfl _ _ rfl (Own.nil w w.heap.size 5) _ _ _ _ _ rfl H.out rfl ?c1 (Nat.le_refl _) ?_)
  case c1 => first | omega | (simp; omega)
  intro u w1 hown hg
  have hbel := (Below.refl w.heap.size w).grown hg (Nat.le_refl _) (by intro k hk; simp [Value.ownBlock] at hk)
  clear hg
  go_wp2
  go_loopw [7, 8] (fun u i wr => ∃ j : Nat, j ≤ k ∧ i = .int .i64 ((j : Int) - 1) ∧ ∃ ys, ys ++ be j v = xs ++ be k v ∧ Own wr w.heap.size 5 u ys ∧ Below w.heap.size w wr) (fun _ i _ => (intOf i + 1).toNat)
  case atStart => exact ⟨k, Nat.le_refl _, rfl, xs, rfl, hown, hbel⟩
  case round =>
    obtain ⟨j, hj, rfl, ys, hys, ho, hbl⟩ := hrel
    by_cases hpos : 1 ≤ j
    · obtain ⟨j, rfl⟩ : ∃ m, j = m + 1 := ⟨j - 1, by omega⟩
      have hlen : ys.length ≤ n + 8 := by
        have := congrArg List.length hys
        simp only [List.length_append, be_len] at this
        omega
      have HY := hidden hys
      have HO := hidden ho
      clear hys ho H
      go_wp2_with (at_builtin; go_loud (refine wpList_append_byt _ rfl _ _ 22 rfl w.heap.size 5 i0 (.int .u8 0) Tryd.underlying22 hi hz0 hz1 hz2 rfl _ _ rfl (HO.out.alloc _) _ _ _ _ _ rfl (one_byte _ _ (v / 2 ^ (8 * j) % 256) ?c0 ?c1) rfl ?c2 ?c3 ?_))
      case c0 => exact byte_rng _
      case c1 => rw [World.cell?_alloc_at _ _ _ _ rfl]; rfl
      case c2 => omega
      case c3 => have := hbl.size; simp; omega
      intro u' w2 hown2 hg2
      have HB2 := hidden ((hbl.alloc hbl.size _).grown hg2 (by have := hbl.size; simp; omega) (fun g hg => (HO.out.lt g hg).1))
      clear hbl hg2 hbel
      go_wp2
      go_roundw
      case rel => exact ⟨j, by omega, rfl, _, be_next _ _ _ _ HY.out, hown2, HB2.out⟩
      case measure => simp [intOf] <;> omega
    · obtain rfl : j = 0 := by omega
      have e1 : ys = xs ++ be k v := by simpa [be] using hys
      subst e1
      have HO := hidden ho
      have HB := hidden hbl
      clear ho hbl hys H hbel hown
      go_wp2
      go_ret
      exact ⟨_, rfl, HO.out, HB.out⟩
end Go.Proofs.YtgpigjoonhghhaaDoor

namespace Go.Proofs.YtgpigjoonhghhaaDoor
open Go.RowKit
set_option linter.unusedVariables false
def lenOf : Value → Nat
  | .slice _ n _ => n
  | _ => 0
theorem Own.one (w : World) (base : Nat) (e : TypeId) (x : Int) (hb : base ≤ w.heap.size) : Own (w.alloc (.cells #[.int .u8 x] e)) base e (.slice (some ⟨w.heap.size, 0, none⟩) 1 1) [x] :=
  ⟨by simp, .inr ⟨w.heap.size, 1, _, by simp, hb, heap_alloc_new w _, by simp, by decide, by simp, by simp⟩⟩
theorem pad_more (n k Z : Nat) (hZ : padZ n = Z) (hk : k < Z) : ((n : Int) % 64 + ((k : Int) + 1)) % 64 ≠ 56 := by
  unfold padZ at hZ
  omega
theorem pad_last (n Z : Nat) (hZ : padZ n = Z) : ((n : Int) % 64 + ((Z : Int) + 1)) % 64 = 56 := by
  unfold padZ at hZ
  omega
set_option maxHeartbeats 800000 in
set_option maxRecDepth 100000 in
theorem rpad_any (n : Nat) (hn : n ≤ 1152921504606846975) (w : World) : Calls Tryd.prog 62 #[.int .i64 n] w fun e w' => ∃ v, e = .returned v ∧ Own w' w.heap.size 5 v (padS n) ∧ Below w.heap.size w w' := by
  obtain ⟨i0, hi, hz0, hz1, hz2⟩ := info_parts Tryd.infoByte
  have h0 : ¬ (n : Int) < 0 := by omega
  have hzl := padZ_lt n
  obtain ⟨Z, hZ⟩ : ∃ Z, padZ n = Z := ⟨_, rfl⟩
  rw [hZ] at hzl
  have HM := hidden (fun k (hk : k < Z) => pad_more n k Z hZ hk)
  have HLAST := hidden (pad_last n Z hZ)
  have HE : Is (padS n) ((128 :: List.replicate Z 0) ++ be 8 ((n : Int) * 8)) := ⟨by unfold padS; rw [hZ]; rfl⟩
  have HR : Hid (∀ k, ∀ x ∈ (128 :: List.replicate k (0 : Int)), 0 ≤ x ∧ x ≤ 255) := by
    intro k x hx
    simp only [List.mem_cons, List.mem_replicate] at hx
    omega
  have HOWN := hidden (Own.one w w.heap.size 5 128 (Nat.le_refl _))
  have HB0 := hidden ((Below.refl w.heap.size w).alloc (Nat.le_refl _) (.cells #[.int .u8 128] 5))
  clear hZ
  go_enter Tryd.func62, Tryd.ntmps62
  go_wp2
  go_loopw [3] (fun o wr => ∃ k : Nat, k ≤ Z ∧ lenOf o = k + 1 ∧ Own wr w.heap.size 5 o (128 :: List.replicate k 0) ∧ Below w.heap.size w wr) (fun o _ => Z + 2 - lenOf o)
  case atStart => exact ⟨0, by omega, rfl, HOWN.out, HB0.out⟩
  case round =>
    obtain ⟨k, hk, -, ho, hb⟩ := hrel
    obtain ⟨q, d, rfl, hbyt⟩ := ho.bytN rfl (N := k + 1) (by simp) (HR.out k)
    have HO := hidden ho
    have HB := hidden hb
    have HY := hidden hbyt
    clear ho hb hbyt HOWN HB0
    by_cases hlt : k < Z
    · have hne := HM.out k hlt
      go_wp2_with (at_builtin; refine wpList_append_byt _ rfl _ _ 22 rfl w.heap.size 5 i0 (.int .u8 0) Tryd.underlying22 hi hz0 hz1 hz2 rfl _ _ rfl (HO.out.alloc _) _ _ _ _ _ rfl (one_byte _ _ 0 ?c0 ?c1) rfl ?c2 ?c3 ?_)
      case c0 => omega
      case c1 => rw [World.cell?_alloc_at _ _ _ _ rfl]; rfl
      case c2 => simp; omega
      case c3 => have := HB.out.size; simp; omega
      intro u' w2 hown2 hg2
      have HB2 := hidden ((HB.out.alloc HB.out.size _).grown hg2 (by have := HB.out.size; simp; omega) (fun g hg => (HO.out.lt g hg).1))
      have hown3 : Own w2 w.heap.size 5 u' (128 :: List.replicate (k + 1) 0) := by
        rw [List.replicate_succ']
        exact hown2
      obtain ⟨q', d', rfl, _⟩ := hown3.bytN rfl (N := k + 1 + 1) (by simp) (HR.out (k + 1))
      have HO3 := hidden hown3
      clear hown2 hown3 hg2 HM HLAST HO HB HY
      go_wp2
      go_roundw
      case rel => exact ⟨k + 1, by omega, rfl, HO3.out, HB2.out⟩
      case measure => simp [lenOf]; omega
    · obtain rfl : k = Z := by omega
      have hla := HLAST.out
      have hw : IntKind.u64.wrap (n : Int) = n := wraps_u64 _ (by omega) (by omega)
      have HP : Hid (Calls Tryd.prog 32 #[.slice q (k + 1) d, .int .u64 ((n : Int) * 8), .int .i64 8] wr (BytesNew wr (padS n))) := by
        have := rput_yes q (k + 1) d _ wr HY.out (by omega) ((n : Int) * 8) (by omega) 8 (by omega) (by omega)
        rw [← HE.eq] at this
        exact this
      clear HM HLAST HE HR
      go_wp2_with (first
        | (go_at_call 32; (with_reducible refine (HP.out).mono ?_); rintro e w' ⟨v, rfl, hown, hbel⟩)
        | fail)
      go_ret
      exact ⟨_, rfl, hown.mono HB.out.size, HB.out.trans (hbel.mono HB.out.size)⟩
end Go.Proofs.YtgpigjoonhghhaaDoor
