/-
  The example of the chapter on sealing holds: awake returns true and only adds memory of its own.
-/
import Derived.Test.YtpocehpejbnemaaDoorQAeadSeal
import Derived.Test.YtpocehpejbnemaaDoorQPolyLaw
import Derived.Test.YtpocehpejbnemaaDoorQPrfMake
namespace Go.Proofs.YtpocehpejbnemaaDoor
open Go.RowKit
set_option linter.unusedVariables false

theorem rng_zerosA (k : Nat) : ∀ x ∈ List.replicate k (0 : Int), 0 ≤ x ∧ x ≤ 255 := fun x hx => by rw [List.eq_of_mem_replicate hx]; omega
/-- What is sealed is opened. -/
theorem open_seal (key nonce data b : List Int) (h : ∀ x ∈ b, 0 ≤ x ∧ x ≤ 255) : openE key nonce data (sealA key nonce data b) = 0 ∧ openL key nonce data (sealA key nonce data b) = b := by
  have hl := sealA_len key nonce data b
  have hx : (xorC key 1 nonce b).length = b.length := xorC_len _ _ _ _
  have ht : (sealA key nonce data b).take ((sealA key nonce data b).length - 16) = xorC key 1 nonce b := by
    rw [hl, show b.length + 16 - 16 = (xorC key 1 nonce b).length by omega]
    exact List.take_left' rfl
  have hd : (sealA key nonce data b).drop ((sealA key nonce data b).length - 16) = tagA key nonce data (xorC key 1 nonce b) := by
    rw [hl, show b.length + 16 - 16 = (xorC key 1 nonce b).length by omega]
    exact List.drop_left' rfl
  have he : openE key nonce data (sealA key nonce data b) = 0 := by
    unfold openE
    rw [if_neg (by omega), ht, hd, if_pos rfl]
  refine ⟨he, ?_⟩
  unfold openL
  rw [if_pos he, ht]
  exact xorC_twice _ _ _ _ h

theorem made_one (w : World) (n : Nat) (hn : n ≤ 1000) (Z : Array Value) (hZ : Z = ((List.replicate n (0 : Int)).map (Value.int .u8)).toArray) : Byt (w.alloc (.cells Z 5)) (some ⟨w.heap.size, 0, none⟩) n n (List.replicate n 0) :=
  (Wb.new w 5 _ Z hZ).byt n (by simp) (by unfold maxLen; omega) (rng_zerosA n)

set_option maxHeartbeats 1600000 in
set_option maxRecDepth 100000 in
theorem awake12_any (w : World) (hQ : QAt w) : Calls Tryd.prog 15 #[] w fun e w' => e = .returned (.bool true) ∧ Below w.heap.size w w' := by
  obtain ⟨i0, hi, hz0, hz1, hz2⟩ := info_parts Tryd.infoByte
  have HQ := hidden (fun W (hW : Below w.heap.size w W) => hQ.below hW hQ.lt)
  clear hQ
  go_enter Tryd.func15, Tryd.ntmps15
  go_upto_region 1 with fail
  go_cut [1, 2] from 7 to 8 (fun o i wx => ∃ g1 g2, o = .slice (some ⟨g1, 0, none⟩) 32 32 ∧ i = .slice (some ⟨g2, 0, none⟩) 12 12 ∧ Byt wx (some ⟨g1, 0, none⟩) 32 32 (List.replicate 32 0) ∧ Byt wx (some ⟨g2, 0, none⟩) 12 12 (List.replicate 12 0) ∧ Below w.heap.size w wx)
  case first =>
    obtain ⟨Z1, HZ1, hmk1⟩ := make_eq (P := Tryd.prog) 22 5 i0 Tryd.underlying22 hi hz0 hz1 hz2 32 (by omega)
    obtain ⟨Z2, HZ2, hmk2⟩ := make_eq (P := Tryd.prog) 22 5 i0 Tryd.underlying22 hi hz0 hz1 hz2 12 (by omega)
    have hmk1' : ∀ w : World, (Instr.makeSlice 22 (.int .i64 32) (.int .i64 32)).run Tryd.prog w = .ok (.slice (some ⟨w.heap.size, 0, none⟩) 32 32) (w.alloc (.cells Z1 5)) := hmk1
    have hmk2' : ∀ w : World, (Instr.makeSlice 22 (.int .i64 12) (.int .i64 12)).run Tryd.prog w = .ok (.slice (some ⟨w.heap.size, 0, none⟩) 12 12) (w.alloc (.cells Z2 5)) := hmk2
    clear hmk1 hmk2
    go_region
    all_goals
      go_wp2
      go_meet
    case rel =>
      have h1 := made_one w 32 (by omega) Z1 HZ1.out
      have h2 := made_one (w.alloc (.cells Z1 5)) 12 (by omega) Z2 HZ2.out
      rw [World.size_alloc] at h2
      exact ⟨_, _, rfl, rfl, (h1.alloc _).below (drew_below ⟨1, rfl⟩), h2.below (drew_below ⟨1, rfl⟩), ((((Below.refl _ w).alloc (Nat.le_refl _) _).alloc (by simp) _).trans (drew_below ⟨1, rfl⟩))⟩
    case rel =>
      have h2 := made_one w 12 (by omega) Z2 HZ2.out
      have h1 := made_one (w.alloc (.cells Z2 5)) 32 (by omega) Z1 HZ1.out
      rw [World.size_alloc] at h1
      exact ⟨_, _, rfl, rfl, h1.below (drew_below ⟨1, rfl⟩), (h2.alloc _).below (drew_below ⟨1, rfl⟩), ((((Below.refl _ w).alloc (Nat.le_refl _) _).alloc (by simp) _).trans (drew_below ⟨1, rfl⟩))⟩
  case rest =>
    obtain ⟨g1, g2, rfl, rfl, hk, hn, hb⟩ := hcut
    have HSE := hidden (seal_yes (some ⟨g1, 0, none⟩) (some ⟨g2, 0, none⟩) none none 32 12 0 0 0 0 (List.replicate 32 0) (List.replicate 12 0) [] [] wc hk hn (Byt.nil _ _ _ (by decide)) (Byt.nil _ _ _ (by decide)) (by omega) (by omega) (HQ.out wc hb))
    have HOP := hidden (fun q c W (hW : Below wc.heap.size wc W) (hq : Byt W q 16 c (sealA (List.replicate 32 0) (List.replicate 12 0) [] [])) => open_yes (some ⟨g1, 0, none⟩) (some ⟨g2, 0, none⟩) none q 32 12 0 0 16 c (List.replicate 32 0) (List.replicate 12 0) [] _ W (hk.below hW) (hn.below hW) (Byt.nil _ _ _ (by decide)) hq (by omega) (by omega) (HQ.out W (hb.trans (hW.mono hb.size))))
    have hos := open_seal (List.replicate 32 0) (List.replicate 12 0) [] [] (by simp)
    have hsl := sealA_len (List.replicate 32 0) (List.replicate 12 0) [] []
    have hsr := sealA_rng (List.replicate 32 0) (List.replicate 12 0) [] []
    rw [hos.1, hos.2] at HOP
    generalize sealA (List.replicate 32 0) (List.replicate 12 0) [] [] = S at *
    have HSL := Is.mk hsl
    have HSR := hidden hsr
    have HB := hidden hb
    clear hk hn hb hos hsl hsr
    go_wp2_with (first
      | (go_at_call 17; (with_reducible refine (HSE.out).mono ?_); rintro en w1 ⟨v1, rfl, ho, hb⟩; obtain ⟨p1, c1, rfl, hy1⟩ := ho.bytN (N := 16) rfl HSL.eq HSR.out; have HB1 := hidden (HB.out.trans (hb.mono HB.out.size)); have HC := hidden (HOP.out p1 c1 w1 hb hy1); clear ho hb hy1)
      | (go_at_call 22; (with_reducible refine (HC.out).mono ?_); rintro en w2 ⟨v2, rfl, ho, hb⟩; obtain ⟨p2, c2, rfl, hy2⟩ := ho.bytN (N := 0) rfl rfl (by simp); have HB2 := hidden (HB1.out.trans (hb.mono HB1.out.size)); clear ho hb hy2)
      | fail)
    go_ret
    exact ⟨rfl, HB2.out⟩
end Go.Proofs.YtpocehpejbnemaaDoor
