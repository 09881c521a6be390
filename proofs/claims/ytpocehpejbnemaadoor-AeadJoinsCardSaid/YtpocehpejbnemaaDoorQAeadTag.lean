/-
  aead.Tag: the tag of data in clear and of encrypted bytes.
-/
import Derived.Test.YtpocehpejbnemaaDoorQZ5
import Derived.Test.YtpocehpejbnemaaDoorQChaXorY
import Derived.Test.YtpocehpejbnemaaDoorQPolySum
import Derived.Test.YtpocehpejbnemaaDoorQConcat
import Derived.Deep.Cut
import Derived.Deep.CutRange
namespace Go.Proofs.YtpocehpejbnemaaDoor
open Go.RowKit
set_option linter.unusedVariables false

/-- Six parts that lie in a slice of slices of the call's own. -/
theorem six_parts (w : World) (a b c d e f : Part) (t : TypeId) (h : ∀ x ∈ [a, b, c, d, e, f], Byt w x.p x.n x.c x.xs) :
    Parts (w.alloc (.cells #[.slice a.p a.n a.c, .slice b.p b.n b.c, .slice c.p c.n c.c, .slice d.p d.n d.c, .slice e.p e.n e.c, .slice f.p f.n f.c] t)) (some ⟨w.heap.size, 0, none⟩) 6 6 [a, b, c, d, e, f] :=
  ⟨rfl, Nat.le_refl _, by decide, fun _ => ⟨_, rfl, fun j hj => by
    have hj' : j < 6 := hj
    have : j = 0 ∨ j = 1 ∨ j = 2 ∨ j = 3 ∨ j = 4 ∨ j = 5 := by omega
    rcases this with rfl | rfl | rfl | rfl | rfl | rfl <;> go_simp⟩, fun x hx => (h x hx).alloc _⟩

set_option maxHeartbeats 3200000 in
set_option maxRecDepth 100000 in
theorem tag_yes (p q r s : Option Addr) (c d n e m f : Nat) (key nonce data cipher : List Int) (w : World) (h : Byt w p 32 c key) (h' : Byt w q 12 d nonce) (hr : Byt w r n e data) (hs : Byt w s m f cipher) (hn : n ≤ 1000000) (hm : m ≤ 1000000) (hQ : QAt w) :
    Calls Tryd.prog 19 #[.slice p 32 c, .slice q 12 d, .slice r n e, .slice s m f] w fun en w' => ∃ v, en = .returned (.tuple #[v, .bool true]) ∧ Own w' w.heap.size 5 v (tagA key nonce data cipher) ∧ Below w.heap.size w w' := by
  have HBK := hidden (cblock_yes p q c d key nonce 0 w h h' hQ)
  have HR := hidden (fun W (hW : Below w.heap.size w W) => hr.below hW)
  have HS := hidden (fun W (hW : Below w.heap.size w W) => hs.below hW)
  have hL := textA_len data cipher
  rw [hr.len, hs.len] at hL
  have hf1 := fillA_lt n
  have hf2 := fillA_lt m
  have HT : Is (textA data cipher) (data ++ (List.replicate (fillA n) 0 ++ (cipher ++ (List.replicate (fillA m) 0 ++ (le8 n ++ le8 m))))) := ⟨by rw [textA, hr.len, hs.len]⟩
  have HTG : Is (tagA key nonce data cipher) (tagS ((blockC key 0 nonce).take 32) (textA data cipher)) := ⟨rfl⟩
  have HBL := hidden (blockC_len key 0 nonce)
  have HBR := hidden (blockC_rng key 0 nonce)
  have HF1 := hidden (fun W => filling_any r n e W (by unfold maxLen; omega))
  have HF2 := hidden (fun W => filling_any s m f W (by unfold maxLen; omega))
  have HC1 := hidden (fun W => count_any r n e W (by unfold maxLen; omega))
  have HC2 := hidden (fun W => count_any s m f W (by unfold maxLen; omega))
  have HL81 := hidden (le8_len n)
  have HL82 := hidden (le8_len m)
  have HR81 := hidden (le8_rng n)
  have HR82 := hidden (le8_rng m)
  have HTR := hidden (textA_rng data cipher hr.rng hs.rng)
  have HZR : Hid (∀ k, ∀ x ∈ List.replicate k (0 : Int), 0 ≤ x ∧ x ≤ 255) := fun k x hx => by rw [List.eq_of_mem_replicate hx]; omega
  have HZL : Hid (∀ k, (List.replicate k (0 : Int)).length = k) := fun k => List.length_replicate
  generalize tagA key nonce data cipher = T at *
  generalize textA data cipher = TX at *
  generalize blockC key 0 nonce = B at *
  generalize fillA n = F1 at *
  generalize fillA m = F2 at *
  generalize le8 n = N8 at *
  generalize le8 m = M8 at *
  have hL := Is.mk hL
  have hcc : ∀ (w2 w3 w4 w5 : World) (p2 : Option Addr) (c2 : Nat) (p3 : Option Addr) (c3 : Nat) (p4 : Option Addr) (c4 : Nat) (p5 : Option Addr) (c5 : Nat), Below w.heap.size w w5 → Below w2.heap.size w2 w3 → Below w3.heap.size w3 w4 → Below w4.heap.size w4 w5 →
      (∀ W, Below w2.heap.size w2 W → Byt W p2 F1 c2 (List.replicate F1 0)) → (∀ W, Below w3.heap.size w3 W → Byt W p3 F2 c3 (List.replicate F2 0)) → (∀ W, Below w4.heap.size w4 W → Byt W p4 8 c4 N8) → Byt w5 p5 8 c5 M8 →
      Calls Tryd.prog 33 #[.slice (some ⟨w5.heap.size, 0, none⟩) 6 6] (w5.alloc (.cells #[.slice r n e, .slice p2 F1 c2, .slice s m f, .slice p3 F2 c3, .slice p4 8 c4, .slice p5 8 c5] 22)) fun en w' =>
        ∃ v, en = .returned v ∧ Own w' w5.heap.size 5 v TX ∧ Below w5.heap.size w5 w' := by
    intro w2 w3 w4 w5 p2 c2 p3 c3 p4 c4 p5 c5 hb5 hu2 hu3 hu4 h2 h3 h4 h5
    have hu24 := hu3.trans (hu4.mono hu3.size)
    have hu25 := hu2.trans (hu24.mono hu2.size)
    have hp := six_parts w5 ⟨r, n, e, data⟩ ⟨p2, F1, c2, List.replicate F1 0⟩ ⟨s, m, f, cipher⟩ ⟨p3, F2, c3, List.replicate F2 0⟩ ⟨p4, 8, c4, N8⟩ ⟨p5, 8, c5, M8⟩ 22 (by
      intro x hx
      simp only [List.mem_cons, List.not_mem_nil, or_false] at hx
      rcases hx with rfl | rfl | rfl | rfl | rfl | rfl
      · exact HR.out w5 hb5
      · exact h2 w5 hu25
      · exact HS.out w5 hb5
      · exact h3 w5 hu24
      · exact h4 w5 hu4
      · exact h5)
    have := concat_any _ _ _ _ _ hp (by simp [sizeOf']; omega)
    simp only [bytesOf, List.flatMap_cons, List.flatMap_nil, List.append_nil, World.size_alloc] at this
    rw [← HT.eq] at this
    refine this.mono ?_
    rintro en w' ⟨v, he, ho, hb⟩
    exact ⟨v, he, ho.mono (by omega), ((Below.refl w5.heap.size w5).alloc (Nat.le_refl _) _).trans (hb.mono (by omega))⟩
  clear h h' hr hs hQ
  go_enter Tryd.func19, Tryd.ntmps19
  go_upto_region 4 with (first
    | (go_at_call 25; (with_reducible refine (HBK.out).mono ?_); rintro en w1 ⟨g, rfl, hg, hwb, hb⟩; have HB1 := hidden hb; have HWB := hidden (fun W (hW : Below w1.heap.size w1 W) => hwb.below hW); clear hb)
    | fail)
  have hps : ∀ (w6 : World) (c6 : Nat) (p6 : Option Addr), Below w1.heap.size w1 w6 → Byt w6 p6 (n + F1 + m + F2 + 16) c6 TX →
      Calls Tryd.prog 26 #[.slice (some ⟨g, 0, none⟩) 32 64, .slice p6 (n + F1 + m + F2 + 16) c6] w6 fun en w' => ∃ v, en = .returned (.tuple #[v, .bool true]) ∧ Own w' w6.heap.size 5 v T ∧ Below w6.heap.size w6 w' := by
    intro w6 c6 p6 hb6 hy6
    have := psum_yes (some ⟨g, 0, none⟩) p6 64 _ c6 (B.take 32) TX w6 (((HWB.out w6 hb6).byt 64 HBL.out (by decide) HBR.out).front 32 (by omega)) hy6 (by omega)
    rw [← HTG.eq] at this
    exact this
  go_upto_region 5 with (first
    | (go_at_call 35; (with_reducible refine (HF1.out _).mono ?_); rintro en w2 ⟨v2, rfl, ho2, hb2⟩; obtain ⟨p2, c2, rfl, hy2⟩ := ho2.bytN (N := F1) rfl (HZL.out _) (HZR.out _); have HB2 := hidden (HB1.out.trans (hb2.mono HB1.out.size)); have HX2 := hidden hb2; have HY2 := hidden (fun W (hW : Below w2.heap.size w2 W) => hy2.below hW); clear ho2 hb2 hy2)
    | (go_at_call 35; (with_reducible refine (HF2.out _).mono ?_); rintro en w3 ⟨v3, rfl, ho3, hb3⟩; obtain ⟨p3, c3, rfl, hy3⟩ := ho3.bytN (N := F2) rfl (HZL.out _) (HZR.out _); have HB3 := hidden (HB2.out.trans (hb3.mono HB2.out.size)); have HU2 := hidden hb3; have HX3 := hidden (HX2.out.trans (hb3.mono HX2.out.size)); have HY3 := hidden (fun W (hW : Below w3.heap.size w3 W) => hy3.below hW); clear ho3 hb3 hy3)
    | (go_at_call 36; (with_reducible refine (HC1.out _).mono ?_); rintro en w4 ⟨v4, rfl, ho4, hb4⟩; obtain ⟨p4, c4, rfl, hy4⟩ := ho4.bytN (N := 8) rfl HL81.out HR81.out; have HB4 := hidden (HB3.out.trans (hb4.mono HB3.out.size)); have HU3 := hidden hb4; have HX4 := hidden (HX3.out.trans (hb4.mono HX3.out.size)); have HY4 := hidden (fun W (hW : Below w4.heap.size w4 W) => hy4.below hW); clear ho4 hb4 hy4)
    | (go_at_call 36; (with_reducible refine (HC2.out _).mono ?_); rintro en w5 ⟨v5, rfl, ho5, hb5⟩; obtain ⟨p5, c5, rfl, hy5⟩ := ho5.bytN (N := 8) rfl HL82.out HR82.out; have HB5 := hidden (HB4.out.trans (hb5.mono HB4.out.size)); have HU4 := hidden hb5; have HX5 := hidden (HX4.out.trans (hb5.mono HX4.out.size)); have HCC := hidden (hcc w2 w3 w4 w5 p2 c2 p3 c3 p4 c4 p5 c5 HB5.out HU2.out HU3.out HU4.out HY2.out HY3.out HY4.out hy5); clear ho5 hb5 hy5)
    | (go_at_call 33; (with_reducible refine (HCC.out).mono ?_); rintro en w6 ⟨v6, rfl, ho6, hb6⟩; obtain ⟨p6, c6, rfl, hy6⟩ := ho6.bytN (N := n + F1 + m + F2 + 16) rfl hL.eq HTR.out; have HB6 := hidden (HB5.out.trans (hb6.mono HB5.out.size)); have HPS := hidden (hps w6 c6 p6 (HX5.out.trans (hb6.mono HX5.out.size)) hy6); clear ho6 hb6 hy6)
    | fail)
  go_wp2_with (first
    | (go_at_call 26; (with_reducible refine (HPS.out).mono ?_); rintro en w7 ⟨v7, rfl, ho7, hb7⟩; have HO7 := hidden ho7; have HB7 := hidden hb7; clear ho7 hb7)
    | fail)
  go_ret2
  exact ⟨_, rfl, HO7.out.mono HB6.out.size, HB6.out.trans (HB7.out.mono HB6.out.size)⟩

theorem tag_no (p q r s : Option Addr) (k c l d n e m f : Nat) (w : World) (hn : k ≤ 9223372036854775807) (hm : l ≤ 9223372036854775807) (h : ¬ (k = 32 ∧ l = 12)) :
    Calls Tryd.prog 19 #[.slice p k c, .slice q l d, .slice r n e, .slice s m f] w fun en w' => en = .returned (.tuple #[.slice none 0 0, .bool false]) ∧ w = w' := by
  have HC := hidden (cblock_no p q k c l d 0 w hn hm h)
  clear h
  go_enter Tryd.func19, Tryd.ntmps19
  go_wp2_with (first
    | (go_at_call 25; (with_reducible refine (HC.out).mono ?_); rintro en w1 ⟨rfl, rfl⟩)
    | fail)
  go_ret2
  exact ⟨rfl, rfl⟩
end Go.Proofs.YtpocehpejbnemaaDoor
