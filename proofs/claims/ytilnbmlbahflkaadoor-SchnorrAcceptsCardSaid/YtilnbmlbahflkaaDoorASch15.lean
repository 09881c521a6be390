/-
  Layer 15's sanity check.
-/
import Derived.Test.YtilnbmlbahflkaaDoorASchVer
import Derived.OwnWalk
import Derived.Lib.SlBytesConst
namespace Go.Proofs.YtilnbmlbahflkaaDoor
open Go.RowKit
set_option linter.unusedVariables false

theorem sigL_len (x : Nat) (h : gsec x = true) (m : List Int) : (sigL x m).length = 16 := by unfold sigL; rw [if_pos h, List.length_append, gbytes_len, gbytes_len]
theorem pubE_5 : pubE 5 = 0 := by unfold pubE; rw [if_pos (by decide)]
theorem pubE_0 : pubE 0 = 13 := by unfold pubE; rw [if_neg (by decide)]
set_option maxHeartbeats 800000 in
theorem chain_nil (y : Int) (w : World) : Calls Tryd.prog 20 #[.slice none 0 0, .int .u64 y, .int .i64 0] w fun e w' => e = .returned (.tuple #[.string ⟨#[]⟩, .int .u64 0, .int .i64 8]) ∧ w = w' := by
  go_enter Tryd.func20, Tryd.ntmps20
  go_wp2
  go_ret3
  exact ⟨rfl, rfl⟩

theorem const_bytS (w : World) (l : List Int) (n : Nat) (hn : l.length = n) (hb : n ≤ maxLen) (hr : ∀ x ∈ l, 0 ≤ x ∧ x ≤ 255) (T : TypeId) (fz : Nat × Nat) : Byt (w.alloc (.cells (l.map (Value.int .u8)).toArray T fz)) (some ⟨w.heap.size, 0, none⟩) n n l :=
  ⟨hn, Nat.le_refl _, hb, hr, fun _ => ⟨w.heap.size, 0, rfl, fun j hj => by
    rw [cell_of_row _ w.heap.size _ _ _ _ (heap_alloc_new w _), Nat.zero_add]
    simp [List.getD_eq_getElem?_getD, hj]⟩⟩
set_option maxHeartbeats 1600000 in
set_option maxRecDepth 100000 in
theorem awake15_any (w : World) (hK : KAt w) : Calls Tryd.prog 6 #[] w fun e w' => e = .returned (.bool true) ∧ Below w.heap.size w w' := by
  have HK := hidden (fun W (hW : Below w.heap.size w W) => hK.below hW hK.lt)
  have HS5 := hidden (fun (p : Option Addr) W (h : Byt W p 1 1 [109]) (hb : Below w.heap.size w W) => signS_any 5 (by decide) p 1 1 [109] W h (by omega) (HK.out W hb))
  have HS0 := hidden (fun W (hb : Below w.heap.size w W) => signS_any 0 (by decide) none 0 0 [] W (Byt.nil _ _ _ (Nat.zero_le _)) (by omega) (HK.out W hb))
  have HP5 := hidden (fun W => rpub_any 5 (by decide) W)
  have hpl := pubV_lt 5
  have hgp := gp_big
  have HV := hidden (fun (p q : Option Addr) (k d : Nat) W (h : Byt W p 1 1 [109]) (hs : Byt W q k d (sigL 5 [109])) (hb : Below w.heap.size w W) => verS_any (pubV 5) (by omega) p 1 1 [109] q k d (sigL 5 [109]) W h (by omega) hs (HK.out W hb))
  rw [ver_sign 5 (by decide) (by decide) [109]] at HV
  rw [pubE_5, show ((5 : Nat) : Int) = 5 from rfl] at HS5 HP5
  rw [pubE_0, show ((0 : Nat) : Int) = 0 from rfl] at HS0
  have hB := hidden (Below.refl w.heap.size w)
  generalize sigL 5 [109] = S at *
  generalize sigL 0 [] = S0 at *
  generalize ((pubV 5 : Nat) : Int) = y at *
  have kc := fun (w : World) (n c : Nat) => Lib.run_convert_bytes_const (P := Tryd.prog) w 22 5 #[.int .u8 109] n c Tryd.underlying22 Tryd.underlying5
  clear hK hpl hgp
  go_enter Tryd.func6, Tryd.ntmps6
  have HM1 : Hid (Byt (w.alloc (.cells #[.int .u8 109] 5 (1, 2))) (some ⟨w.heap.size, 0, none⟩) 1 1 [109]) := hidden (const_bytS w [109] 1 rfl (by decide) (by decide) 5 (1, 2))
  have HB1 := hidden (hB.out.alloc (Nat.le_refl _) (.cells #[.int .u8 109] 5 (1, 2)))
  have HX1 := hidden (HS5.out _ _ HM1.out HB1.out)
  go_upto_region 4 with (first
    | (go_at_call 11; (with_reducible refine (HX1.out).mono ?_); rintro e w2 ⟨p2, N2, c2, rfl, hy2, hb2⟩; have HY2 := hidden (fun W (hW : Below w2.heap.size w2 W) => hy2.below hW); have HB2 := hidden (HB1.out.trans (hb2.mono HB1.out.size)); clear hy2 hb2 HX1)
    | (go_at_call 9; (with_reducible refine (HP5.out _).mono ?_); rintro e w3 ⟨rfl, hb⟩; have HC3 := hidden hb; have HB3 := hidden (HB2.out.trans (hb.mono HB2.out.size)); have HX3 := hidden (HS0.out w3 HB3.out); clear hb)
    | (go_at_call 11; (with_reducible refine (HX3.out).mono ?_); rintro e w4 ⟨p4, N4, c4, rfl, hy4, hb4⟩; have HC4 := hidden (HC3.out.trans (hb4.mono HC3.out.size)); have HB4 := hidden (HB3.out.trans (hb4.mono HB3.out.size)); clear hy4 hb4)
    | fail)
  go_upto_region 5 with (first
    | (go_at_call 20; (with_reducible refine (chain_nil y _).mono ?_); rintro e w5 ⟨rfl, rfl⟩)
    | fail)
  have HM5 : Hid (Byt (w4.alloc (.cells #[.int .u8 109] 5 (1, 2))) (some ⟨w4.heap.size, 0, none⟩) 1 1 [109]) := hidden (const_bytS w4 [109] 1 rfl (by decide) (by decide) 5 (1, 2))
  have HB5 := hidden (HB4.out.alloc HB4.out.size (.cells #[.int .u8 109] 5 (1, 2)))
  have HX5 := hidden (HV.out _ p2 N2 c2 _ HM5.out (HY2.out _ (HC4.out.alloc HC4.out.size (.cells #[.int .u8 109] 5 (1, 2)))) HB5.out)
  go_wp2_with (first
    | (go_at_call 14; (with_reducible refine (HX5.out).mono ?_); rintro e w6 ⟨rfl, hb⟩; have HB6 := hidden (HB5.out.trans (hb.mono HB5.out.size)); clear hb)
    | fail)
  go_ret
  exact ⟨rfl, HB6.out⟩
end Go.Proofs.YtilnbmlbahflkaaDoor
