/-
  The walk of the law WireOrders: Compare is an order.
-/
import Derived.Test.YtdlbjbfonihglaaAwake
import Derived.Test.YtdlbjbfonihglaaClone
namespace Go.Proofs.Ytdlbjbfonihglaa
open Go.RowKit
set_option linter.unusedVariables false

set_option maxHeartbeats 800000 in
theorem wireOrders_walk (p : Option Addr) (n c : Nat) (xs : List Int) (q : Option Addr) (m d : Nat) (ys : List Int) (r : Option Addr) (l e : Nat) (zs : List Int) (w : World)
    (h : Byt w p n c xs) (b0 : c ≤ 1048576) (k : Byt w q m d ys) (b1 : d ≤ 1048576) (j : Byt w r l e zs) (b2 : e ≤ 1048576) :
    Calls Try.prog 9 #[.slice p n c, .slice q m d, .slice r l e] w fun e w' => e = .returned (.bool true) ∧ Below w.heap.size w w' := by
  have l0 := h.cap
  have l1 := k.cap
  have l2 := j.cap
  have hl := hidden h.len
  have C1 := hidden (fun W (hb : Below w.heap.size w W) => compare_any p q n c m d xs ys W (h.below hb) (k.below hb))
  have C2 := hidden (fun W (hb : Below w.heap.size w W) => compare_any q r m d l e ys zs W (k.below hb) (j.below hb))
  have C3 := hidden (fun W (hb : Below w.heap.size w W) => compare_any p r n c l e xs zs W (h.below hb) (j.below hb))
  have C4 := hidden (fun W (hb : Below w.heap.size w W) => compare_any p p n c n c xs xs W (h.below hb) (h.below hb))
  obtain ⟨us, hus⟩ : ∃ us, xs ++ zs = us := ⟨_, rfl⟩
  obtain ⟨N, hN⟩ : ∃ N, us.length = N := ⟨_, rfl⟩
  have HU := hidden hus
  have HN := hidden hN
  have C5 := hidden (fun W (hb : Below w.heap.size w W) t f (hy : Byt W t N f us) => compare_any p t n c N f xs us W (h.below hb) hy)
  have HX := hidden (fun W (hb : Below w.heap.size w W) => h.below hb)
  have HZ := hidden (fun W (hb : Below w.heap.size w W) => j.below hb)
  have HR := hidden (hus ▸ rng_append h.rng j.rng)
  have hz : zs.length = l := j.len
  have HL := hidden hz
  clear h k j hz
  have ht := hidden (cmpR_trans xs ys zs)
  have hp := cmpR_prefix xs zs
  rw [hus] at hp
  clear hus hN
  have e0 := cmpR_refl xs
  rw [e0] at C4
  clear e0
  generalize cmpR xs us = v5 at *
  generalize cmpR xs ys = v1 at *
  generalize cmpR ys zs = v2 at *
  generalize cmpR xs zs = v3 at *
  obtain ⟨i0, hi, hz0, hz1, hz2⟩ := info_parts Try.infoByte
  have hv : ¬ v1 ≤ 0 ∨ ¬ v2 ≤ 0 ∨ v3 ≤ 0 := by
    by_cases g1 : v1 ≤ 0
    · by_cases g2 : v2 ≤ 0
      · exact .inr (.inr (ht.out g1 g2))
      · exact .inr (.inl g2)
    · exact .inl g1
  clear ht
  have q1 : ([] : List Int).length + n ≤ 140737488355328 := by simp; omega
  have q2 : xs.length + l ≤ 140737488355328 := by have := hl.out; omega
  have nob : ∀ k, (Value.slice none 0 0).ownBlock = some k → w.heap.size ≤ k := fun k hk => by simp [Value.ownBlock] at hk
  have Q1 := hidden q1
  have Q2 := hidden q2
  have NB := hidden nob
  clear q1 q2 nob
  go_enter Try.func9, Try.ntmps9
  go_wp2_with (first | (go_at_call 10; refine (awake_any _).mono ?_; rintro e w1 ⟨rfl, hb1⟩))
  have HB := hidden hb1
  clear hb1
  rcases hv with hv | hv | hv
  all_goals
    go_wp2_with (first
      | (go_at_call 22; (first | (with_reducible refine (C1.out _ HB.out).mono ?_) | (with_reducible refine (C2.out _ HB.out).mono ?_) | (with_reducible refine (C3.out _ HB.out).mono ?_)); rintro e w' ⟨rfl, rfl⟩)
      | (at_builtin; refine wpList_append_byt _ rfl (.const (.slice none 0 0)) (.tmp 26) 22 rfl w.heap.size 5 i0 (.int .u8 0) Try.underlying22 hi hz0 hz1 hz2 rfl _ _ rfl (Own.nil _ w.heap.size 5) _ _ _ _ _ rfl (HX.out _ HB.out) rfl Q1.out HB.out.size ?_; intro u w2 hown hg; have HB2 := hidden (HB.out.grown hg HB.out.size NB.out); clear hg)
      | (at_builtin; refine wpList_append_byt _ rfl (.tmp 27) (.tmp 28) 22 rfl w.heap.size 5 i0 (.int .u8 0) Try.underlying22 hi hz0 hz1 hz2 rfl _ _ rfl hown _ _ _ _ _ rfl (HZ.out _ HB2.out) rfl Q2.out HB2.out.size ?_; intro u' w3 hown' hg'; have HB3 := hidden (HB2.out.grown hg' HB2.out.size (fun g hg => (hown.lt g hg).1)); clear hg'; obtain ⟨t, f, rfl, hby⟩ := hown'.bytN HU.out HN.out HR.out; clear hown')
      | (go_at_call 22; (first | (with_reducible refine (C5.out _ HB3.out _ _ hby).mono ?_) | (with_reducible refine (C4.out _ HB3.out).mono ?_)); rintro e w' ⟨rfl, rfl⟩))
  all_goals
    go_ret
    exact ⟨rfl, HB3.out⟩
end Go.Proofs.Ytdlbjbfonihglaa
