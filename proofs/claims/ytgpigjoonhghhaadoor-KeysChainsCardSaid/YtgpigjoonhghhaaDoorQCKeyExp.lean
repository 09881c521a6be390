/-
  keys.expand: keys of some sizes; the rows of five and two keys.
-/
import Derived.Test.YtgpigjoonhghhaaDoorQCKeyFn
import Derived.Test.YtgpigjoonhghhaaDoorQCPrfPlus
import Derived.Test.YtgpigjoonhghhaaDoorQCZ3
namespace Go.Proofs.YtgpigjoonhghhaaDoor
open Go.RowKit
set_option linter.unusedVariables false
theorem its_new (w : World) (zs : List Int) (cs : Array Value) (T : TypeId) (hz : ∀ x ∈ zs, -9223372036854775808 ≤ x ∧ x ≤ 9223372036854775807) (hn : zs.length ≤ 1000) (hcs : cs = (zs.map (Value.int .i64)).toArray) : Its (w.alloc (.cells cs T)) (some ⟨w.heap.size, 0, none⟩) zs.length zs.length zs :=
  ⟨rfl, Nat.le_refl _, by unfold maxLen; omega, hz, fun _ => ⟨w.heap.size, 0, rfl, fun i hi => by
    subst hcs
    rw [Nat.zero_add, World.cell?_alloc_at _ _ _ _ rfl]
    simp [List.getElem?_map, List.getElem?_eq_getElem hi, List.getD_eq_getElem?_getD]⟩⟩
def RowTo (L : List (List Int)) (w : World) (e : Ending) (w' : World) : Prop :=
  ∃ (v : Value) (l : List Bl), e = .returned v ∧ RowG KBl NBl w' w.heap.size v l ∧ l.map Bl.xs = L ∧ Below w.heap.size w w'
set_option maxHeartbeats 1600000 in
set_option maxRecDepth 100000 in
theorem expand_any (p q r : Option Addr) (n c m d k f : Nat) (key seed zs : List Int) (N : Nat) (T : Nat → Nat) (w : World) (h : Byt w p n c key) (hn : n ≤ 1000) (hs : Byt w q m d seed) (hm : m ≤ 100000) (hz : Its w r k f zs) (hk : k ≤ 6)
    (hT0 : T 0 = 0) (hT : ∀ j, j < k → (T (j + 1) : Int) = T j + zs.getD j 0) (hTb : ∀ j, j ≤ k → T j ≤ 8160) (hN : T k = N) (hK : KAt w) :
    Calls Tryd.prog 40 #[.slice p n c, .slice q m d, .slice r k f] w (RowTo ((splitS (plusS key seed N) zs).getD []) w) := by
  have HZ := hidden (fun W (hW : Below w.heap.size w W) => hz.below hW)
  have HP := hidden (plus_yes p q n c m d key seed N (by rw [← hN]; exact hTb k (Nat.le_refl _)) w h (by omega) hs (by omega) hK)
  have hNb : N ≤ 8160 := by rw [← hN]; exact hTb k (Nat.le_refl _)
  have HS := hidden (fun (p' : Option Addr) (c' : Nat) W (hW : Byt W p' N c' (plusS key seed N)) (hb : Below w.heap.size w W) => psplit_any p' r N c' k f _ zs W hW (by omega) (hz.below hb) (by omega))
  have HZW := hidden hz
  have HT := hidden hT
  have HTB := hidden hTb
  generalize plusS key seed N = P at *
  generalize splitS P zs = R at *
  clear h hs hz hK hT hTb
  go_enter Tryd.func40, Tryd.ntmps40
  go_wp2_with fail
  go_loopw [7, 16] (fun s i wr => ∃ j : Nat, j ≤ k ∧ s = .int .i64 (T j : Nat) ∧ i = .int .i64 j ∧ wr = w) (fun _ i _ => k - (intOf i).toNat)
  case atStart => exact ⟨0, by omega, by rw [hT0]; rfl, rfl, rfl⟩
  case round =>
    obtain ⟨j, hj, rfl, rfl, rfl⟩ := hrel
    by_cases hlt : j < k
    · have hlt' : (j : Int) < k := by omega
      obtain ⟨b, o, rfl, c0⟩ := HZW.out.at_ j hlt
      have hs := HT.out j hlt
      have h1 := HTB.out j hj
      have h2 := HTB.out (j + 1) (by omega)
      have HE := Is.mk hs
      generalize zs.getD j 0 = z at *
      have hb1 : (0 : Int) ≤ (T j : Int) + z ∧ (T j : Int) + z ≤ 8160 := by omega
      generalize (T j : Nat) = t at *
      clear hs h2 hlt
      go_wp2_with fail
      go_roundw
      case rel => exact ⟨j + 1, by omega, by rw [HE.eq], by go_num, (by first | rfl | trivial)⟩
      case measure => simp [intOf]; omega
    · obtain rfl : j = k := by omega
      have hlt' : ¬ (j : Int) < j := by omega
      rw [hN]
      clear hlt
      go_wp2_with (first
        | (go_at_call 31; (with_reducible refine (HP.out).mono ?_); rintro e w2 ⟨p2, c2, rfl, hy2, hb2⟩; have HB2 := hidden hb2; have HS2 := hidden (HS.out p2 c2 w2 hy2 hb2); clear hy2 hb2 HP)
        | (go_at_call 58; (with_reducible refine (HS2.out).mono ?_); rintro e w3 ⟨v3, l, rfl, hr3, hl3, hll, hb3⟩; have HR3 := hidden (hr3.mono HB2.out.size); have HL3 := hidden hl3; have HB3 := hidden (HB2.out.trans (hb3.mono HB2.out.size)); clear hr3 hb3 hl3 HS2)
        | fail)
      go_ret
      exact ⟨_, l, rfl, HR3.out, HL3.out, HB3.out⟩
end Go.Proofs.YtgpigjoonhghhaaDoor
