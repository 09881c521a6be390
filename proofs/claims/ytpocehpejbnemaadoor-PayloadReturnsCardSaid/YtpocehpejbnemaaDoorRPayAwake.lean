/-
  What the laws on payloads share: the example of the chapter.
-/
import Derived.Test.YtpocehpejbnemaaDoorRPayVal
import Derived.Test.YtpocehpejbnemaaDoorRPayPut
import Derived.Test.YtpocehpejbnemaaDoorRZ17
import Derived.Deep.RegionWith
namespace Go.Proofs.YtpocehpejbnemaaDoor
open Go.RowKit
set_option linter.unusedVariables false

theorem spiSize_0 (w : World) : Calls Tryd.prog 113 #[.int .i64 0] w fun e w' => e = .returned (.int .i64 0) ∧ w = w' := by
  go_enter Tryd.func113, Tryd.ntmps113
  go_wp2
  go_ret
  exact ⟨rfl, rfl⟩
set_option maxHeartbeats 800000 in
theorem checkNotify_0 (w : World) : Calls Tryd.prog 94 #[.agg #[.int .i64 0, .slice none 0 0, .int .i64 16388, .slice none 0 0], .int .i64 0] w fun e w' => e = .returned (.int .i64 0) ∧ Below w.heap.size w w' := by
  have HB := hidden ((Below.refl w.heap.size w).alloc (Nat.le_refl _) (.cells #[.int .i64 0, .slice none 0 0, .int .i64 16388, .slice none 0 0] 34))
  go_enter Tryd.func94, Tryd.ntmps94
  go_wp2_with (first
    | (go_at_call 113; (with_reducible refine (spiSize_0 _).mono ?_); rintro e w' ⟨rfl, rfl⟩)
    | fail)
  go_ret
  exact ⟨rfl, HB.out⟩
theorem parts_two (w : World) (p0 p1 : Option Addr) (n0 n1 c0 c1 : Nat) (x0 x1 : List Int) (T : TypeId) (h0 : Byt w p0 n0 c0 x0) (h1 : Byt w p1 n1 c1 x1) : Parts (w.alloc (.cells #[.slice p0 n0 c0, .slice p1 n1 c1] T)) (some ⟨w.heap.size, 0, none⟩) 2 2 [⟨p0, n0, c0, x0⟩, ⟨p1, n1, c1, x1⟩] :=
  ⟨rfl, Nat.le_refl _, by decide, fun _ => ⟨_, rfl, fun j hj => by
    have : j = 0 ∨ j = 1 := by simp at hj; omega
    rcases this with rfl | rfl <;> go_simp⟩, fun x hx => by
    simp at hx
    rcases hx with rfl | rfl
    · exact h0.alloc _
    · exact h1.alloc _⟩
set_option maxHeartbeats 1600000 in
set_option maxRecDepth 100000 in
theorem buildNotify_0 (w : World) : Calls Tryd.prog 64 #[.agg #[.int .i64 0, .slice none 0 0, .int .i64 16388, .slice none 0 0]] w fun e w' => ∃ q d, e = .returned (.tuple #[.slice q 4 d, .int .i64 0]) ∧ Frs w' w.heap.size q 4 d [0, 0, 64, 4] ∧ Below w.heap.size w w' := by
  have HB := hidden (((Below.refl w.heap.size w).alloc (Nat.le_refl _) (.cells #[.int .i64 0, .slice none 0 0, .int .i64 16388, .slice none 0 0] 34)).alloc (by simp) (.cells #[.int .u8 0, .int .u8 0, .int .u8 64, .int .u8 4] 102))
  have hc : ((w.alloc (.cells #[.int .i64 0, .slice none 0 0, .int .i64 16388, .slice none 0 0] 34)).alloc (.cells #[.int .u8 0, .int .u8 0, .int .u8 64, .int .u8 4] 102)).cell? ⟨w.heap.size, 0, none⟩ = some (.int .i64 0) ∧ ((w.alloc (.cells #[.int .i64 0, .slice none 0 0, .int .i64 16388, .slice none 0 0] 34)).alloc (.cells #[.int .u8 0, .int .u8 0, .int .u8 64, .int .u8 4] 102)).cell? ⟨w.heap.size, 1, none⟩ = some (.slice none 0 0) ∧ ((w.alloc (.cells #[.int .i64 0, .slice none 0 0, .int .i64 16388, .slice none 0 0] 34)).alloc (.cells #[.int .u8 0, .int .u8 0, .int .u8 64, .int .u8 4] 102)).cell? ⟨w.heap.size, 2, none⟩ = some (.int .i64 16388) ∧ ((w.alloc (.cells #[.int .i64 0, .slice none 0 0, .int .i64 16388, .slice none 0 0] 34)).alloc (.cells #[.int .u8 0, .int .u8 0, .int .u8 64, .int .u8 4] 102)).cell? ⟨w.heap.size, 3, none⟩ = some (.slice none 0 0) ∧ ((w.alloc (.cells #[.int .i64 0, .slice none 0 0, .int .i64 16388, .slice none 0 0] 34)).alloc (.cells #[.int .u8 0, .int .u8 0, .int .u8 64, .int .u8 4] 102)).cell? ⟨w.heap.size + 1, 0, none⟩ = some (.int .u8 0) ∧ ((w.alloc (.cells #[.int .i64 0, .slice none 0 0, .int .i64 16388, .slice none 0 0] 34)).alloc (.cells #[.int .u8 0, .int .u8 0, .int .u8 64, .int .u8 4] 102)).cell? ⟨w.heap.size + 1, 1, none⟩ = some (.int .u8 0) ∧ ((w.alloc (.cells #[.int .i64 0, .slice none 0 0, .int .i64 16388, .slice none 0 0] 34)).alloc (.cells #[.int .u8 0, .int .u8 0, .int .u8 64, .int .u8 4] 102)).cell? ⟨w.heap.size + 1, 2, none⟩ = some (.int .u8 64) ∧ ((w.alloc (.cells #[.int .i64 0, .slice none 0 0, .int .i64 16388, .slice none 0 0] 34)).alloc (.cells #[.int .u8 0, .int .u8 0, .int .u8 64, .int .u8 4] 102)).cell? ⟨w.heap.size + 1, 3, none⟩ = some (.int .u8 4) := ⟨by go_simp, by go_simp, by go_simp, by go_simp, by go_simp, by go_simp, by go_simp, by go_simp⟩
  have HC := hidden hc
  clear hc
  go_enter Tryd.func64, Tryd.ntmps64
  go_upto_region 3 with fail
  generalize hwz : ((w.alloc (.cells #[.int .i64 0, .slice none 0 0, .int .i64 16388, .slice none 0 0] 34)).alloc (.cells #[.int .u8 0, .int .u8 0, .int .u8 64, .int .u8 4] 102)) = wz at *
  clear hwz
  have HK : Hid (∀ wx : World, Below wz.heap.size wz wx → wx.cell? ⟨w.heap.size, 0, none⟩ = some (.int .i64 0) ∧ wx.cell? ⟨w.heap.size, 1, none⟩ = some (.slice none 0 0) ∧ wx.cell? ⟨w.heap.size, 2, none⟩ = some (.int .i64 16388) ∧ wx.cell? ⟨w.heap.size, 3, none⟩ = some (.slice none 0 0) ∧ wx.cell? ⟨w.heap.size + 1, 0, none⟩ = some (.int .u8 0) ∧ wx.cell? ⟨w.heap.size + 1, 1, none⟩ = some (.int .u8 0) ∧ wx.cell? ⟨w.heap.size + 1, 2, none⟩ = some (.int .u8 64) ∧ wx.cell? ⟨w.heap.size + 1, 3, none⟩ = some (.int .u8 4)) := hidden (fun wx hb => ⟨cell_below hb _ _ HC.out.1, cell_below hb _ _ HC.out.2.1, cell_below hb _ _ HC.out.2.2.1, cell_below hb _ _ HC.out.2.2.2.1, cell_below hb _ _ HC.out.2.2.2.2.1, cell_below hb _ _ HC.out.2.2.2.2.2.1, cell_below hb _ _ HC.out.2.2.2.2.2.2.1, cell_below hb _ _ HC.out.2.2.2.2.2.2.2⟩)
  have HP := hidden ((parts_two wz none none 0 0 0 0 [] [] 22 (Byt.nil _ _ _ (by unfold maxLen; omega)) (Byt.nil _ _ _ (by unfold maxLen; omega))).below (w' := (wz.alloc (.cells #[.slice none 0 0, .slice none 0 0] 22)).drew) (drew_below ⟨1, rfl⟩))
  have HBD := hidden (show Below wz.heap.size wz wz.drew from drew_below ⟨1, rfl⟩)
  have HBA := hidden (((Below.refl wz.heap.size wz).alloc (Nat.le_refl _) (.cells #[.slice none 0 0, .slice none 0 0] 22)).trans (drew_below (B := wz.heap.size) (w' := (wz.alloc (.cells #[.slice none 0 0, .slice none 0 0] 22)).drew) ⟨1, rfl⟩))
  go_region_held3 (fun w' => w'.cell? ⟨w.heap.size, 0, none⟩ = some (.int .i64 0) ∧ w'.cell? ⟨w.heap.size, 1, none⟩ = some (.slice none 0 0) ∧ w'.cell? ⟨w.heap.size, 2, none⟩ = some (.int .i64 16388) ∧ w'.cell? ⟨w.heap.size, 3, none⟩ = some (.slice none 0 0) ∧ w'.cell? ⟨w.heap.size + 1, 0, none⟩ = some (.int .u8 0) ∧ w'.cell? ⟨w.heap.size + 1, 1, none⟩ = some (.int .u8 0) ∧ w'.cell? ⟨w.heap.size + 1, 2, none⟩ = some (.int .u8 64) ∧ w'.cell? ⟨w.heap.size + 1, 3, none⟩ = some (.int .u8 4)) (first | exact HK.out _ HBD.out | exact HK.out _ HBA.out | exact HK.out _ HB1.out | exact HK.out _ HB2.out | go_keep)
    (first
    | (go_at_call 59; (with_reducible refine (before_any 0 0 64 4 (by omega) (by omega) (by omega) (by omega) _ _ _ _ _ HP.out (by decide) [0, 0, 64, 4] rfl).mono ?_); rintro e w1 ⟨q1, d1, rfl, hf1, hb1⟩; have HB1 := hidden (HBA.out.trans (hb1.mono HBA.out.size)); have HF1 := hidden hf1; clear hf1 hb1)
    | (go_at_call 94; (with_reducible refine (checkNotify_0 _).mono ?_); rintro e w2 ⟨rfl, hb2⟩; have HB2 := hidden (HB1.out.trans (hb2.mono HB1.out.size)); have HF2 := hidden (HF1.out.below hb2); clear hb2)
    | fail)
  all_goals
    go_wp2
    go_ret2
    exact ⟨_, _, rfl, HF2.out.mono (Nat.le_trans HB.out.size HBA.out.size), HB.out.trans (HB2.out.mono HB.out.size)⟩

theorem ret_raw {fn : Func} {R : Ending → World → Prop} {act : Act} {w : World} {p s : Nat} {g : Nat} {k : Int} {c : Bool} {x u : Value} (h : fn.results = #[.cell p 43, .tmp s]) (hp : act.tmps.getD p undef = .pointer (some ⟨g, 0, none⟩)) (hs : act.tmps.getD s undef = u) (hd : act.defers = [])
    (c0 : w.cell? ⟨g, 0, none⟩ = some (.int .i64 k)) (c1 : w.cell? ⟨g, 1, none⟩ = some (.bool c)) (c2 : w.cell? ⟨g, 2, none⟩ = some x) (h1 : x.oneCell' = true)
    (hR : R (.returned (.tuple #[.agg #[.int .i64 k, .bool c, x], u])) w) : bodyPost Tryd.prog fn R .ret act w := by
  refine bodyPost_ret (v := .tuple #[.agg #[.int .i64 k, .bool c, x], u]) ?_ hd hR
  rw [Array.getD_eq_getD_getElem?] at hp hs
  have hl : (loadVar 43 ⟨g, 0, none⟩).run Tryd.prog w = .ok (.agg #[.int .i64 k, .bool c, x]) w := by simp [loadVar, go_sem, c0, c1, c2, Result.andThen]
  simp [results, h, hp, hs, asAddr, hl]

set_option maxHeartbeats 1600000 in
set_option maxRecDepth 100000 in
theorem build_0 (w : World) : Calls Tryd.prog 29 #[.agg #[.int .i64 41, .slice none 0 0, .int .i64 0, .slice none 0 0, .int .i64 0, .slice none 0 0, .int .i64 0, .slice none 0 0, .int .i64 0, .slice none 0 0, .int .i64 16388, .slice none 0 0, .int .i64 0, .slice none 0 0, .slice none 0 0, .slice none 0 0]] w fun e w' => ∃ q d, e = .returned (.tuple #[.slice q 4 d, .int .i64 0]) ∧ Frs w' w.heap.size q 4 d [0, 0, 64, 4] ∧ Below w.heap.size w w' := by
  have HB := hidden ((Below.refl w.heap.size w).alloc (Nat.le_refl _) (.cells #[.int .i64 41, .slice none 0 0, .int .i64 0, .slice none 0 0, .int .i64 0, .slice none 0 0, .int .i64 0, .slice none 0 0, .int .i64 0, .slice none 0 0, .int .i64 16388, .slice none 0 0, .int .i64 0, .slice none 0 0, .slice none 0 0, .slice none 0 0] 40))
  go_enter Tryd.func29, Tryd.ntmps29
  go_wp2_with (first
    | (go_at_call 64; (with_reducible refine (buildNotify_0 _).mono ?_); rintro e w1 ⟨q1, d1, rfl, hf1, hb1⟩; have HF1 := hidden (hf1.mono HB.out.size); have HB1 := hidden (HB.out.trans (hb1.mono HB.out.size)); clear hf1 hb1)
    | fail)
  go_ret2
  exact ⟨_, _, rfl, HF1.out, HB1.out⟩

set_option maxHeartbeats 1600000 in
set_option maxRecDepth 100000 in
theorem pbuild_0 (w : World) : Calls Tryd.prog 11 #[.agg #[.int .i64 41, .slice none 0 0, .int .i64 0, .slice none 0 0, .int .i64 0, .slice none 0 0, .int .i64 0, .slice none 0 0, .int .i64 0, .slice none 0 0, .int .i64 16388, .slice none 0 0, .int .i64 0, .slice none 0 0, .slice none 0 0, .slice none 0 0]] w fun e w' => ∃ q d, e = .returned (.tuple #[.agg #[.int .i64 41, .bool false, .slice q 4 d], .int .i64 0]) ∧ Byt w' q 4 d [0, 0, 64, 4] ∧ Below w.heap.size w w' := by
  have HB := hidden (((Below.refl w.heap.size w).alloc (Nat.le_refl _) (.cells #[.int .i64 41, .slice none 0 0, .int .i64 0, .slice none 0 0, .int .i64 0, .slice none 0 0, .int .i64 0, .slice none 0 0, .int .i64 0, .slice none 0 0, .int .i64 16388, .slice none 0 0, .int .i64 0, .slice none 0 0, .slice none 0 0, .slice none 0 0] 40)).alloc (by simp) (.cells #[.int .i64 0, .bool false, .slice none 0 0] 43))
  have hc : ((w.alloc (.cells #[.int .i64 41, .slice none 0 0, .int .i64 0, .slice none 0 0, .int .i64 0, .slice none 0 0, .int .i64 0, .slice none 0 0, .int .i64 0, .slice none 0 0, .int .i64 16388, .slice none 0 0, .int .i64 0, .slice none 0 0, .slice none 0 0, .slice none 0 0] 40)).alloc (.cells #[.int .i64 0, .bool false, .slice none 0 0] 43)).cell? ⟨w.heap.size, 0, none⟩ = some (.int .i64 41) ∧ ((w.alloc (.cells #[.int .i64 41, .slice none 0 0, .int .i64 0, .slice none 0 0, .int .i64 0, .slice none 0 0, .int .i64 0, .slice none 0 0, .int .i64 0, .slice none 0 0, .int .i64 16388, .slice none 0 0, .int .i64 0, .slice none 0 0, .slice none 0 0, .slice none 0 0] 40)).alloc (.cells #[.int .i64 0, .bool false, .slice none 0 0] 43)).cell? ⟨w.heap.size + 1, 0, none⟩ = some (.int .i64 0) ∧ ((w.alloc (.cells #[.int .i64 41, .slice none 0 0, .int .i64 0, .slice none 0 0, .int .i64 0, .slice none 0 0, .int .i64 0, .slice none 0 0, .int .i64 0, .slice none 0 0, .int .i64 16388, .slice none 0 0, .int .i64 0, .slice none 0 0, .slice none 0 0, .slice none 0 0] 40)).alloc (.cells #[.int .i64 0, .bool false, .slice none 0 0] 43)).cell? ⟨w.heap.size + 1, 1, none⟩ = some (.bool false) ∧ ((w.alloc (.cells #[.int .i64 41, .slice none 0 0, .int .i64 0, .slice none 0 0, .int .i64 0, .slice none 0 0, .int .i64 0, .slice none 0 0, .int .i64 0, .slice none 0 0, .int .i64 16388, .slice none 0 0, .int .i64 0, .slice none 0 0, .slice none 0 0, .slice none 0 0] 40)).alloc (.cells #[.int .i64 0, .bool false, .slice none 0 0] 43)).cell? ⟨w.heap.size + 1, 2, none⟩ = some (.slice none 0 0) ∧ ∀ j, ((w.alloc (.cells #[.int .i64 41, .slice none 0 0, .int .i64 0, .slice none 0 0, .int .i64 0, .slice none 0 0, .int .i64 0, .slice none 0 0, .int .i64 0, .slice none 0 0, .int .i64 16388, .slice none 0 0, .int .i64 0, .slice none 0 0, .slice none 0 0, .slice none 0 0] 40)).alloc (.cells #[.int .i64 0, .bool false, .slice none 0 0] 43)).frozen? ⟨w.heap.size + 1, j, none⟩ = false := ⟨by go_simp, by go_simp, by go_simp, by go_simp, fun j => by go_simp⟩
  have HC := hidden hc
  clear hc
  go_enter Tryd.func11, Tryd.ntmps11
  go_wp2_with (first
    | (go_at_call 29; (with_reducible refine (build_0 _).mono ?_); rintro e w1 ⟨q1, d1, rfl, hf1, hb1⟩; have HF1 := hidden hf1; have HB1 := hidden (HB.out.trans (hb1.mono HB.out.size)); have c0 := cell_below hb1 _ _ HC.out.1; have r0 := cell_below hb1 _ _ HC.out.2.1; have r1 := cell_below hb1 _ _ HC.out.2.2.1; have r2 := cell_below hb1 _ _ HC.out.2.2.2.1; have rf := fun j => (World.frozen?_of_block (a := ⟨w.heap.size + 1, j, none⟩) (hb1.block (w.heap.size + 1) (by simp))).trans (HC.out.2.2.2.2 j); have HFS := hidden (((hf1.low (grown_set w1 (w.heap.size + 1) 0 (.int .i64 41)) (by simp)).low (grown_set _ (w.heap.size + 1) 1 (.bool false)) (by simp)).low (grown_set _ (w.heap.size + 1) 2 (.slice q1 4 d1)) (by simp)); have HBS := hidden (((HB1.out.setCell (p := ⟨w.heap.size + 1, 0, none⟩) (by simp) (.int .i64 41)).setCell (p := ⟨w.heap.size + 1, 1, none⟩) (by simp) (.bool false)).setCell (p := ⟨w.heap.size + 1, 2, none⟩) (by simp) (.slice q1 4 d1)); clear hf1 hb1)
    | fail)
  refine ret_raw (g := w.heap.size + 1) (k := 41) (c := false) (x := .slice q1 4 d1) rfl rfl rfl rfl (by go_simp) (by go_simp) (by go_simp) rfl ?_
  exact ⟨_, _, rfl, HFS.out.byt, HBS.out⟩

set_option maxHeartbeats 1600000 in
set_option maxRecDepth 100000 in
theorem awake06_any (w : World) : Calls Tryd.prog 8 #[] w fun e w' => e = .returned (.bool true) ∧ Below w.heap.size w w' := by
  go_enter Tryd.func8, Tryd.ntmps8
  go_wp2_with (first
    | (go_at_call 11; (with_reducible refine (pbuild_0 _).mono ?_); rintro e w1 ⟨q1, d1, rfl, hy1, hb1⟩; have HY1 := hidden ((hy1.alloc (.cells #[.int .i64 41, .bool false, .slice q1 4 d1] 43)).alloc (.cells #[.int .u8 0, .int .u8 0, .int .u8 64, .int .u8 4] 5)); have HW1 : Hid (Byt ((w1.alloc (.cells #[.int .i64 41, .bool false, .slice q1 4 d1] 43)).alloc (.cells #[.int .u8 0, .int .u8 0, .int .u8 64, .int .u8 4] 5)) (some ⟨w1.heap.size + 1, 0, none⟩) 4 4 [0, 0, 64, 4]) := hidden (by have := four_byt (w1.alloc (.cells #[.int .i64 41, .bool false, .slice q1 4 d1] 43)) 0 0 64 4 5 (by omega) (by omega) (by omega) (by omega); simpa using this); have HB1 := hidden ((hb1.alloc hb1.size (.cells #[.int .i64 41, .bool false, .slice q1 4 d1] 43)).alloc (by have := hb1.size; simp; omega) (.cells #[.int .u8 0, .int .u8 0, .int .u8 64, .int .u8 4] 5)); clear hy1 hb1)
    | (go_at_call 21; (with_reducible refine (requal_any _ _ _ _ _ _ _ _ _ HY1.out HW1.out).mono ?_); rintro e w2 ⟨rfl, hd⟩; have HB2 := hidden (HB1.out.trans ((drew_below hd).mono HB1.out.size)); clear hd)
    | fail)
  go_ret
  exact ⟨by simp, HB2.out⟩
end Go.Proofs.YtpocehpejbnemaaDoor
