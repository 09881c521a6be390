/-
  aead.Seal and aead.Open.
-/
import Derived.Test.YtpocehpejbnemaaDoorQAeadTag
namespace Go.Proofs.YtpocehpejbnemaaDoor
open Go.RowKit
set_option linter.unusedVariables false

theorem pair_parts (w : World) (a b : Part) (t : TypeId) (h : ∀ x ∈ [a, b], Byt w x.p x.n x.c x.xs) :
    Parts (w.alloc (.cells #[.slice a.p a.n a.c, .slice b.p b.n b.c] t)) (some ⟨w.heap.size, 0, none⟩) 2 2 [a, b] :=
  ⟨rfl, Nat.le_refl _, by decide, fun _ => ⟨_, rfl, fun j hj => by
    have hj' : j < 2 := hj
    have : j = 0 ∨ j = 1 := by omega
    rcases this with rfl | rfl <;> go_simp⟩, fun x hx => (h x hx).alloc _⟩
theorem sealA_rng (key nonce data plain : List Int) : ∀ x ∈ sealA key nonce data plain, 0 ≤ x ∧ x ≤ 255 := rng_append (xorC_rng _ _ _ _) (tagA_rng _ _ _ _)
theorem sealA_len (key nonce data plain : List Int) : (sealA key nonce data plain).length = plain.length + 16 := by
  simp only [sealA, List.length_append, xorC_len, tagA_len]

set_option maxHeartbeats 1600000 in
set_option maxRecDepth 100000 in
theorem seal_yes (p q r s : Option Addr) (c d n e m f : Nat) (key nonce data plain : List Int) (w : World) (h : Byt w p 32 c key) (h' : Byt w q 12 d nonce) (hr : Byt w r n e data) (hs : Byt w s m f plain) (hn : n ≤ 100000) (hm : m ≤ 100000) (hQ : QAt w) :
    Calls Tryd.prog 17 #[.slice p 32 c, .slice q 12 d, .slice r n e, .slice s m f] w fun en w' => ∃ v, en = .returned (.tuple #[v, .int .i64 0]) ∧ Own w' w.heap.size 5 v (sealA key nonce data plain) ∧ Below w.heap.size w w' := by
  have HX := hidden (cxor_yes p q s c d m f key nonce plain 1 w h h' hs (by omega) hQ (by omega) (by omega))
  obtain ⟨X, hX⟩ : ∃ X, xorC key 1 nonce plain = X := ⟨_, rfl⟩
  have hXl : X.length = m := by rw [← hX, xorC_len, hs.len]
  have hXr : ∀ x ∈ X, 0 ≤ x ∧ x ≤ 255 := by rw [← hX]; exact xorC_rng _ _ _ _
  have HS : Is (sealA key nonce data plain) (X ++ tagA key nonce data X) := ⟨by rw [← hX]; rfl⟩
  have HT := hidden (fun W (hW : Below w.heap.size w W) px cx (hx : Byt W px m cx X) => tag_yes p q r px c d n e m cx key nonce data X W (h.below hW) (h'.below hW) (hr.below hW) hx (by omega) (by omega) (hQ.below hW hQ.lt))
  have HTL := hidden (tagA_len key nonce data X)
  have HTR := hidden (tagA_rng key nonce data X)
  rw [hX] at HX
  generalize tagA key nonce data X = T at *
  generalize sealA key nonce data plain = R at *
  have hcc : ∀ (w2 w3 : World) (p2 p3 : Option Addr) (c2 c3 : Nat), Byt w3 p2 m c2 X → Byt w3 p3 16 c3 T → Calls Tryd.prog 33 #[.slice (some ⟨w3.heap.size, 0, none⟩) 2 2] (w3.alloc (.cells #[.slice p2 m c2, .slice p3 16 c3] 22)) fun en w' =>
        ∃ v, en = .returned v ∧ Own w' w3.heap.size 5 v R ∧ Below w3.heap.size w3 w' := by
    intro w2 w3 p2 p3 c2 c3 h2 h3
    have := concat_any _ _ _ _ _ (pair_parts w3 ⟨p2, m, c2, X⟩ ⟨p3, 16, c3, T⟩ 22 (by
      intro x hx
      simp only [List.mem_cons, List.not_mem_nil, or_false] at hx
      rcases hx with rfl | rfl
      · exact h2
      · exact h3)) (by simp [sizeOf']; omega)
    simp only [bytesOf, List.flatMap_cons, List.flatMap_nil, List.append_nil, World.size_alloc] at this
    rw [← HS.eq] at this
    refine this.mono ?_
    rintro en w' ⟨v, he, ho, hb⟩
    exact ⟨v, he, ho.mono (by omega), ((Below.refl w3.heap.size w3).alloc (Nat.le_refl _) _).trans (hb.mono (by omega))⟩
  have HXL := Is.mk hXl
  have HXR := hidden hXr
  clear h h' hr hs hQ hX hXl hXr
  go_enter Tryd.func17, Tryd.ntmps17
  go_wp2_with (first
    | (go_at_call 24; (with_reducible refine (HX.out).mono ?_); rintro en w1 ⟨v1, rfl, ho, hb⟩; obtain ⟨p1, c1, rfl, hy1⟩ := ho.bytN (N := m) rfl HXL.eq HXR.out; have HB1 := hidden hb; have HY1 := hidden (fun W (hW : Below w1.heap.size w1 W) => hy1.below hW); have HT1 := hidden (HT.out w1 hb p1 c1 hy1); clear ho hb hy1)
    | (go_at_call 19; (with_reducible refine (HT1.out).mono ?_); rintro en w2 ⟨v2, rfl, ho, hb⟩; obtain ⟨p2, c2, rfl, hy2⟩ := ho.bytN (N := 16) rfl HTL.out HTR.out; have HB2 := hidden (HB1.out.trans (hb.mono HB1.out.size)); have HC := hidden (hcc w1 w2 p1 p2 c1 c2 (HY1.out w2 hb) hy2); clear ho hb hy2)
    | (go_at_call 33; (with_reducible refine (HC.out).mono ?_); rintro en w3 ⟨v3, rfl, ho, hb⟩; have HO3 := hidden (ho.mono HB2.out.size); have HB3 := hidden (HB2.out.trans (hb.mono HB2.out.size)); clear ho hb)
    | fail)
  go_ret2
  exact ⟨_, rfl, HO3.out, HB3.out⟩

theorem seal_no (p q r s : Option Addr) (k c l d n e m f : Nat) (w : World) (hn : k ≤ 9223372036854775807) (hm : l ≤ 9223372036854775807) (h : ¬ (k = 32 ∧ l = 12)) :
    Calls Tryd.prog 17 #[.slice p k c, .slice q l d, .slice r n e, .slice s m f] w fun en w' => en = .returned (.tuple #[.slice none 0 0, .int .i64 13]) ∧ w = w' := by
  have HC := hidden (cxor_no p q k c l d 1 s m f w hn hm h)
  clear h
  go_enter Tryd.func17, Tryd.ntmps17
  go_wp2_with (first
    | (go_at_call 24; (with_reducible refine (HC.out).mono ?_); rintro en w1 ⟨rfl, rfl⟩)
    | fail)
  go_ret2
  exact ⟨rfl, rfl⟩

/-- What is opened: the error, and the bytes. -/
def openE (key nonce data xs : List Int) : Int :=
  if xs.length < 16 then 1 else if tagA key nonce data (xs.take (xs.length - 16)) = xs.drop (xs.length - 16) then 0 else 12
def openL (key nonce data xs : List Int) : List Int :=
  if openE key nonce data xs = 0 then xorC key 1 nonce (xs.take (xs.length - 16)) else []
theorem openL_rng (key nonce data xs : List Int) : ∀ x ∈ openL key nonce data xs, 0 ≤ x ∧ x ≤ 255 := by
  unfold openL
  split
  · exact xorC_rng _ _ _ _
  · intro x hx; simp at hx

set_option maxHeartbeats 1600000 in
set_option maxRecDepth 100000 in
theorem open_yes (p q r s : Option Addr) (c d n e m f : Nat) (key nonce data xs : List Int) (w : World) (h : Byt w p 32 c key) (h' : Byt w q 12 d nonce) (hr : Byt w r n e data) (hs : Byt w s m f xs) (hn : n ≤ 100000) (hm : m ≤ 100000) (hQ : QAt w) :
    Calls Tryd.prog 22 #[.slice p 32 c, .slice q 12 d, .slice r n e, .slice s m f] w fun en w' => ∃ v, en = .returned (.tuple #[v, .int .i64 (openE key nonce data xs)]) ∧ Own w' w.heap.size 5 v (openL key nonce data xs) ∧ Below w.heap.size w w' := by
  have hlen := hs.len
  have hcap := hs.cap
  by_cases hsh : m < 16
  · have hE : openE key nonce data xs = 1 := by unfold openE; rw [if_pos (by omega)]
    have hO : openL key nonce data xs = [] := by unfold openL; rw [hE]; rfl
    rw [hE, hO]
    have hmax : (if (m : Int) - 16 < 0 then (0 : Int) else (m : Int) - 16) = 0 := by rw [if_pos (by omega)]
    have HT := hidden (tag_yes p q r s c d n e 0 f key nonce data (xs.take 0) w h h' hr (hs.front 0 (by omega)) (by omega) (by omega) hQ)
    generalize tagA key nonce data (xs.take 0) = T at *
    clear h h' hr hs hQ hE hO
    go_enter Tryd.func22, Tryd.ntmps22
    have hlt : (m : Int) < 16 := by omega
    go_wp2_with (first
      | (go_at_call 19; (with_reducible refine (HT.out).mono ?_); rintro en w1 ⟨v1, rfl, ho, hb⟩; have HB := hidden hb; clear ho hb)
      | fail)
    go_ret2
    exact ⟨_, rfl, Own.nil _ _ _, HB.out⟩
  · obtain ⟨N, rfl⟩ : ∃ N, m = N + 16 := ⟨m - 16, by omega⟩
    have hmax : (if ((N + 16 : Nat) : Int) - 16 < 0 then (0 : Int) else ((N + 16 : Nat) : Int) - 16) = (N : Int) := by rw [if_neg (by omega)]; omega
    have hfr := hs.front N (by omega)
    have hpt := hs.part N (N + 16) (by omega) (Nat.le_refl _)
    rw [List.take_of_length_le (by omega), show N + 16 - N = 16 by omega] at hpt
    have hle : openE key nonce data xs = if tagA key nonce data (xs.take N) = xs.drop N then 0 else 12 := by
      unfold openE
      rw [if_neg (by omega), show xs.length - 16 = N by omega]
    have hll : openL key nonce data xs = if openE key nonce data xs = 0 then xorC key 1 nonce (xs.take N) else [] := by
      unfold openL
      rw [show xs.length - 16 = N by omega]
    have HT := hidden (tag_yes p q r s c d n e N f key nonce data (xs.take N) w h h' hr hfr (by omega) (by omega) hQ)
    have HTL := hidden (tagA_len key nonce data (xs.take N))
    have HTR := hidden (tagA_rng key nonce data (xs.take N))
    have HX := hidden (fun W (hW : Below w.heap.size w W) => cxor_yes p q s c d N f key nonce (xs.take N) 1 W (h.below hW) (h'.below hW) (hfr.below hW) (by omega) (hQ.below hW hQ.lt) (by omega) (by omega))
    rw [if_neg (by omega)] at hpt
    have HP := hidden (fun W (hW : Below w.heap.size w W) => hpt.below hW)
    generalize xorC key 1 nonce (xs.take N) = X at *
    generalize tagA key nonce data (xs.take N) = T at *
    generalize openE key nonce data xs = E at *
    generalize openL key nonce data xs = L at *
    generalize xs.drop N = D at *
    have hN1 : ((N + 16 : Nat) : Int) - (N : Int) = 16 := by omega
    have hN2 : (N : Int) ≤ ((N + 16 : Nat) : Int) := by omega
    have hN3 : (N : Int) ≤ (f : Int) := by omega
    have hN4 : (0 : Int) ≤ (N : Int) := by omega
    have hge : ¬ ((N + 16 : Nat) : Int) < 16 := by omega
    have hNt : ((N + 16 : Nat) : Int) - 16 = (N : Int) := by omega
    clear h h' hr hs hQ hfr hpt hsh hlen
    go_enter Tryd.func22, Tryd.ntmps22
    go_upto_region 7 with (first
      | (go_at_call 19; (with_reducible refine (HT.out).mono ?_); rintro en w1 ⟨v1, rfl, ho, hb⟩; obtain ⟨p1, c1, rfl, hy1⟩ := ho.bytN (N := 16) rfl HTL.out HTR.out; have HB1 := hidden hb; have HSM := hidden (same_any p1 (Option.map (fun x => x.add N) s) 16 c1 (f - N) T D w1 hy1 (HP.out w1 hb)); clear ho hb hy1)
      | fail)
    have hN5 : (N : Int) + 16 - (N : Int) = 16 := by omega
    have hN6 : (N : Int) ≤ (N : Int) + 16 := by omega
    have hd : decide ((N : Int) + 16 < 16) = false := by simp; omega
    have hsl : N + 16 - N = 16 := by omega
    have HX1 := hidden (HX.out w1 HB1.out)
    by_cases hTD : T = D
    · have hdt : decide (T = D) = true := by simp [hTD]
      rw [if_pos hTD] at hle
      rw [hle, if_pos rfl] at hll
      rw [hdt] at HSM
      subst hle hll
      clear hTD hdt
      go_wp2_with (first
        | (go_at_call 42; (with_reducible refine (HSM.out).mono ?_); rintro en w2 ⟨rfl, rfl⟩)
        | (go_at_call 24; (with_reducible refine (HX1.out).mono ?_); rintro en w2 ⟨v2, rfl, ho, hb⟩; have HO := hidden (ho.mono HB1.out.size); have HB2 := hidden (HB1.out.trans (hb.mono HB1.out.size)); clear ho hb)
        | fail)
      go_ret2
      exact ⟨_, rfl, HO.out, HB2.out⟩
    · have hdt : decide (T = D) = false := by simp [hTD]
      rw [if_neg hTD] at hle
      rw [hle, if_neg (by decide)] at hll
      rw [hdt] at HSM
      subst hle hll
      clear hTD hdt
      go_wp2_with (first
        | (go_at_call 42; (with_reducible refine (HSM.out).mono ?_); rintro en w2 ⟨rfl, rfl⟩)
        | fail)
      go_ret2
      exact ⟨_, rfl, Own.nil _ _ _, HB1.out⟩

theorem open_no (p q r s : Option Addr) (k c l d n e m f : Nat) (w : World) (hn : k ≤ 9223372036854775807) (hm : l ≤ 9223372036854775807) (h : ¬ (k = 32 ∧ l = 12)) (hf : m ≤ f) (hf' : f ≤ 9223372036854775807) :
    Calls Tryd.prog 22 #[.slice p k c, .slice q l d, .slice r n e, .slice s m f] w fun en w' => en = .returned (.tuple #[.slice none 0 0, .int .i64 13]) ∧ w = w' := by
  by_cases hsh : m < 16
  · have hmax : (if (m : Int) - 16 < 0 then (0 : Int) else (m : Int) - 16) = 0 := by rw [if_pos (by omega)]
    have HC := hidden (tag_no p q r s k c l d n e 0 f w hn hm h)
    clear h
    go_enter Tryd.func22, Tryd.ntmps22
    go_wp2_with (first
      | (go_at_call 19; (with_reducible refine (HC.out).mono ?_); rintro en w1 ⟨rfl, rfl⟩)
      | fail)
    go_ret2
    exact ⟨rfl, rfl⟩
  · obtain ⟨N, rfl⟩ : ∃ N, m = N + 16 := ⟨m - 16, by omega⟩
    have hmax : (if ((N + 16 : Nat) : Int) - 16 < 0 then (0 : Int) else ((N + 16 : Nat) : Int) - 16) = (N : Int) := by rw [if_neg (by omega)]; omega
    have hN2 : (N : Int) ≤ ((N + 16 : Nat) : Int) := by omega
    have hN3 : (N : Int) ≤ (f : Int) := by omega
    have hN4 : (0 : Int) ≤ (N : Int) := by omega
    have HC := hidden (tag_no p q r s k c l d n e N f w hn hm h)
    clear h
    go_enter Tryd.func22, Tryd.ntmps22
    go_wp2_with (first
      | (go_at_call 19; (with_reducible refine (HC.out).mono ?_); rintro en w1 ⟨rfl, rfl⟩)
      | fail)
    go_ret2
    exact ⟨rfl, rfl⟩
end Go.Proofs.YtpocehpejbnemaaDoor
