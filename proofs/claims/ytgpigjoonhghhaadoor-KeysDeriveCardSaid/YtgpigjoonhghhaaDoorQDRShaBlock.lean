/-
  The document's Block.
-/
import Derived.Test.YtgpigjoonhghhaaDoorQDShaBlock
import Derived.Test.YtgpigjoonhghhaaDoorQDRNumber
import Derived.Deep.RegionWith
namespace Go.Proofs.YtgpigjoonhghhaaDoor
open Go.RowKit
set_option linter.unusedVariables false
set_option maxHeartbeats 800000 in
set_option maxRecDepth 100000 in
theorem rconst_any (w : World) : Calls Tryd.prog 71 #[] w fun e w' => e = .returned (.agg (kTab.map (Value.int .u32)).toArray) ∧ Below w.heap.size w w' := by
  go_enter Tryd.func71, Tryd.ntmps71
  go_upto_region 1 with fail
  generalize hw1 : w.alloc (.cells _ 93) = w1
  have hr : Wd w1 w.heap.size 93 (List.replicate 64 0) := by
    rw [← hw1]
    exact Wd.new w _ (List.replicate 64 0) _ rfl
  have hb : Below w.heap.size w w1 := by
    rw [← hw1]
    exact (Below.refl _ w).alloc (Nat.le_refl _) _
  clear hw1
  have HR := hidden hr
  have HR4 := hidden (hr.row kTab)
  have HB4 := hidden (below_setRow hb (Nat.le_refl _) (kTab.map (Value.int .u32)).toArray)
  have HI : Hid ((Tryd.prog.info? 93).map (·.size) = some ((kTab.map (Value.int .u32)).toArray).size) := by rw [info64]; rfl
  clear hr hb
  go_wp2_with (first
    | (refine wpList_store_row rfl 93 _ _ rfl w.heap.size (kTab.map (Value.int .u32)).toArray rfl rfl 93 _ HR.out.heap HI.out rfl (one32 _) ?_)
    | fail)
  refine bodyPost_ret (results_cell_row rfl _ _ w.heap.size 93 _ _ _ rfl HR4.out.heap Tryd.underlying93 rfl HI.out) rfl ?_
  exact ⟨rfl, HB4.out⟩
end Go.Proofs.YtgpigjoonhghhaaDoor
