/-
  The law PayloadCompares, walked: it returns true for every input, and only adds memory of its own.
-/
import Derived.Test.YtmjagbghgbemaaaDoorQPayDraw
import Derived.Test.YtmjagbghgbemaaaDoorQPaySp
import Derived.Test.YtmjagbghgbemaaaDoorQPayAwake
import Derived.Test.YtmjagbghgbemaaaDoorQPayL
import Derived.Shelf.Abstract
import Derived.Deep.RegionHeld3
import Derived.BigQuiet
import Derived.BigCall
import Derived.RangeFuncCalls
namespace Go.Proofs.YtmjagbghgbemaaaDoor
open Go.RowKit
set_option linter.unusedVariables false

set_option maxHeartbeats 3200000 in
set_option maxRecDepth 100000 in
theorem payloadCompares_walk (p : Option Addr) (n c : Nat) (xs : List Int) (w : World) (h : Byt w p n c xs) (b0 : c ≤ 140737488351232) (hKH : KindsAt w ∧ 0 < w.heap.size) :
    Calls Tryd.prog 3 #[.slice p n c] w fun e w' => e = .returned (.bool true) ∧ Below w.heap.size w w' := by
  obtain ⟨hK, h0⟩ := hKH
  have HX := hidden h
  have HA := hidden (awake06_any w)
  have HK := hidden hK
  clear h hK
  go_enter Tryd.func3, Tryd.ntmps3
  go_wp2_with (first
    | (go_at_call 7; (with_reducible refine (HA.out).mono ?_); rintro e w1 ⟨rfl, hb⟩; have HB1 := hidden hb; clear hb HA)
    | (go_at_call 8; (refine (new_any w p n c xs _ HX.out HB1.out 200 (by omega)).mono ?_); rintro e w2 ⟨rfl, hc, hb⟩; have HC2 := hidden hc; have hk2 := hc.lt; have hk0 := Nat.lt_of_lt_of_le h0 hc.base; have HK2 := hidden (HK.out.below hc.bel); clear hc hb HB1 HX HK)
    | fail)
  generalize w1.heap.size = k at *
  go_at_call 9
  refine (draw6_any w w2 k HC2.out hk0 HK2.out).mono ?_
  rintro e w3 ⟨K1, x, C, rfl, -, hp, hrow, hl, hn2, hs2, hts, hc, hg⟩
  have HC3 := hidden hc
  have HK3 := hidden (HK2.out.grown hg hk0)
  have HP3 := hidden hp
  have HW3 := hidden hrow
  have HL := hidden hl
  have HTS := hidden hts
  have hs3 := hg.size
  clear hp hrow hl hts hc hg HC2 HK2
  go_wp2_with fail
  go_at_call 9
  refine (draw6_any w w3 k HC3.out hk0 HK3.out).mono ?_
  rintro e w4 ⟨K2, y, D, rfl, -, hq, -, -, -, -, -, hc, hg⟩
  have HC4 := hidden hc
  have HP4 := hidden (HP3.out.step (Kpt.low hg hk2))
  have HW4 := hidden (HW3.out.low hg hk2)
  have HQ4 := hidden (hq.mono hs3)
  have hs4 := hg.size
  clear hq hc hg HC3 HP3 HW3 HK3
  go_wp2_with fail
  have hx5 : PvIn ((w4.alloc (.cells #[.int .i64 x.t, .slice x.pr.p x.pr.n x.pr.c, .int .i64 x.eg, .slice x.ed.p x.ed.n x.ed.c, .int .i64 x.ik, .slice x.id.p x.id.n x.id.c, .int .i64 x.am, .slice x.ad.p x.ad.n x.ad.c, .int .i64 x.np, .slice x.ns.p x.ns.n x.ns.c, .int .i64 x.nt, .slice x.nd.p x.nd.n x.nd.c, .int .i64 x.dp, .slice x.ds.p x.ds.n x.ds.c, .slice x.se.p x.se.n x.se.c, .slice x.da.p x.da.n x.da.c] 40)).alloc (.cells #[.int .i64 y.t, .slice y.pr.p y.pr.n y.pr.c, .int .i64 y.eg, .slice y.ed.p y.ed.n y.ed.c, .int .i64 y.ik, .slice y.id.p y.id.n y.id.c, .int .i64 y.am, .slice y.ad.p y.ad.n y.ad.c, .int .i64 y.np, .slice y.ns.p y.ns.n y.ns.c, .int .i64 y.nt, .slice y.nd.p y.nd.n y.nd.c, .int .i64 y.dp, .slice y.ds.p y.ds.n y.ds.c, .slice y.se.p y.se.n y.se.c, .slice y.da.p y.da.n y.da.c] 40)) w4.heap.size x := (PvIn.new w4 x 40).alloc _
  have hy5 : PvIn ((w4.alloc (.cells #[.int .i64 x.t, .slice x.pr.p x.pr.n x.pr.c, .int .i64 x.eg, .slice x.ed.p x.ed.n x.ed.c, .int .i64 x.ik, .slice x.id.p x.id.n x.id.c, .int .i64 x.am, .slice x.ad.p x.ad.n x.ad.c, .int .i64 x.np, .slice x.ns.p x.ns.n x.ns.c, .int .i64 x.nt, .slice x.nd.p x.nd.n x.nd.c, .int .i64 x.dp, .slice x.ds.p x.ds.n x.ds.c, .slice x.se.p x.se.n x.se.c, .slice x.da.p x.da.n x.da.c] 40)).alloc (.cells #[.int .i64 y.t, .slice y.pr.p y.pr.n y.pr.c, .int .i64 y.eg, .slice y.ed.p y.ed.n y.ed.c, .int .i64 y.ik, .slice y.id.p y.id.n y.id.c, .int .i64 y.am, .slice y.ad.p y.ad.n y.ad.c, .int .i64 y.np, .slice y.ns.p y.ns.n y.ns.c, .int .i64 y.nt, .slice y.nd.p y.nd.n y.nd.c, .int .i64 y.dp, .slice y.ds.p y.ds.n y.ds.c, .slice y.se.p y.se.n y.se.c, .slice y.da.p y.da.n y.da.c] 40)) (w4.heap.size + 1) y := by
    have := PvIn.new (w4.alloc (.cells #[.int .i64 x.t, .slice x.pr.p x.pr.n x.pr.c, .int .i64 x.eg, .slice x.ed.p x.ed.n x.ed.c, .int .i64 x.ik, .slice x.id.p x.id.n x.id.c, .int .i64 x.am, .slice x.ad.p x.ad.n x.ad.c, .int .i64 x.np, .slice x.ns.p x.ns.n x.ns.c, .int .i64 x.nt, .slice x.nd.p x.nd.n x.nd.c, .int .i64 x.dp, .slice x.ds.p x.ds.n x.ds.c, .slice x.se.p x.se.n x.se.c, .slice x.da.p x.da.n x.da.c] 40)) y 40
    rw [World.size_alloc] at this
    exact this
  have hc5 := (HC4.out.alloc (.cells #[.int .i64 x.t, .slice x.pr.p x.pr.n x.pr.c, .int .i64 x.eg, .slice x.ed.p x.ed.n x.ed.c, .int .i64 x.ik, .slice x.id.p x.id.n x.id.c, .int .i64 x.am, .slice x.ad.p x.ad.n x.ad.c, .int .i64 x.np, .slice x.ns.p x.ns.n x.ns.c, .int .i64 x.nt, .slice x.nd.p x.nd.n x.nd.c, .int .i64 x.dp, .slice x.ds.p x.ds.n x.ds.c, .slice x.se.p x.se.n x.se.c, .slice x.da.p x.da.n x.da.c] 40)).alloc (.cells #[.int .i64 y.t, .slice y.pr.p y.pr.n y.pr.c, .int .i64 y.eg, .slice y.ed.p y.ed.n y.ed.c, .int .i64 y.ik, .slice y.id.p y.id.n y.id.c, .int .i64 y.am, .slice y.ad.p y.ad.n y.ad.c, .int .i64 y.np, .slice y.ns.p y.ns.n y.ns.c, .int .i64 y.nt, .slice y.nd.p y.nd.n y.nd.c, .int .i64 y.dp, .slice y.ds.p y.ds.n y.ds.c, .slice y.se.p y.se.n y.se.c, .slice y.da.p y.da.n y.da.c] 40)
  have hp5 := HP4.out.step ((Kpt.alloc w4 (.cells #[.int .i64 x.t, .slice x.pr.p x.pr.n x.pr.c, .int .i64 x.eg, .slice x.ed.p x.ed.n x.ed.c, .int .i64 x.ik, .slice x.id.p x.id.n x.id.c, .int .i64 x.am, .slice x.ad.p x.ad.n x.ad.c, .int .i64 x.np, .slice x.ns.p x.ns.n x.ns.c, .int .i64 x.nt, .slice x.nd.p x.nd.n x.nd.c, .int .i64 x.dp, .slice x.ds.p x.ds.n x.ds.c, .slice x.se.p x.se.n x.se.c, .slice x.da.p x.da.n x.da.c] 40) w2.heap.size).trans (Kpt.alloc _ (.cells #[.int .i64 y.t, .slice y.pr.p y.pr.n y.pr.c, .int .i64 y.eg, .slice y.ed.p y.ed.n y.ed.c, .int .i64 y.ik, .slice y.id.p y.id.n y.id.c, .int .i64 y.am, .slice y.ad.p y.ad.n y.ad.c, .int .i64 y.np, .slice y.ns.p y.ns.n y.ns.c, .int .i64 y.nt, .slice y.nd.p y.nd.n y.nd.c, .int .i64 y.dp, .slice y.ds.p y.ds.n y.ds.c, .slice y.se.p y.se.n y.se.c, .slice y.da.p y.da.n y.da.c] 40) _))
  have hq5 := HQ4.out.step ((Kpt.alloc w4 (.cells #[.int .i64 x.t, .slice x.pr.p x.pr.n x.pr.c, .int .i64 x.eg, .slice x.ed.p x.ed.n x.ed.c, .int .i64 x.ik, .slice x.id.p x.id.n x.id.c, .int .i64 x.am, .slice x.ad.p x.ad.n x.ad.c, .int .i64 x.np, .slice x.ns.p x.ns.n x.ns.c, .int .i64 x.nt, .slice x.nd.p x.nd.n x.nd.c, .int .i64 x.dp, .slice x.ds.p x.ds.n x.ds.c, .slice x.se.p x.se.n x.se.c, .slice x.da.p x.da.n x.da.c] 40) w2.heap.size).trans (Kpt.alloc _ (.cells #[.int .i64 y.t, .slice y.pr.p y.pr.n y.pr.c, .int .i64 y.eg, .slice y.ed.p y.ed.n y.ed.c, .int .i64 y.ik, .slice y.id.p y.id.n y.id.c, .int .i64 y.am, .slice y.ad.p y.ad.n y.ad.c, .int .i64 y.np, .slice y.ns.p y.ns.n y.ns.c, .int .i64 y.nt, .slice y.nd.p y.nd.n y.nd.c, .int .i64 y.dp, .slice y.ds.p y.ds.n y.ds.c, .slice y.se.p y.se.n y.se.c, .slice y.da.p y.da.n y.da.c] 40) _))
  have hw5 := (HW4.out.alloc (.cells #[.int .i64 x.t, .slice x.pr.p x.pr.n x.pr.c, .int .i64 x.eg, .slice x.ed.p x.ed.n x.ed.c, .int .i64 x.ik, .slice x.id.p x.id.n x.id.c, .int .i64 x.am, .slice x.ad.p x.ad.n x.ad.c, .int .i64 x.np, .slice x.ns.p x.ns.n x.ns.c, .int .i64 x.nt, .slice x.nd.p x.nd.n x.nd.c, .int .i64 x.dp, .slice x.ds.p x.ds.n x.ds.c, .slice x.se.p x.se.n x.se.c, .slice x.da.p x.da.n x.da.c] 40)).alloc (.cells #[.int .i64 y.t, .slice y.pr.p y.pr.n y.pr.c, .int .i64 y.eg, .slice y.ed.p y.ed.n y.ed.c, .int .i64 y.ik, .slice y.id.p y.id.n y.id.c, .int .i64 y.am, .slice y.ad.p y.ad.n y.ad.c, .int .i64 y.np, .slice y.ns.p y.ns.n y.ns.c, .int .i64 y.nt, .slice y.nd.p y.nd.n y.nd.c, .int .i64 y.dp, .slice y.ds.p y.ds.n y.ds.c, .slice y.se.p y.se.n y.se.c, .slice y.da.p y.da.n y.da.c] 40)
  have hs5 : w2.heap.size + 2 ≤ ((w4.alloc (.cells #[.int .i64 x.t, .slice x.pr.p x.pr.n x.pr.c, .int .i64 x.eg, .slice x.ed.p x.ed.n x.ed.c, .int .i64 x.ik, .slice x.id.p x.id.n x.id.c, .int .i64 x.am, .slice x.ad.p x.ad.n x.ad.c, .int .i64 x.np, .slice x.ns.p x.ns.n x.ns.c, .int .i64 x.nt, .slice x.nd.p x.nd.n x.nd.c, .int .i64 x.dp, .slice x.ds.p x.ds.n x.ds.c, .slice x.se.p x.se.n x.se.c, .slice x.da.p x.da.n x.da.c] 40)).alloc (.cells #[.int .i64 y.t, .slice y.pr.p y.pr.n y.pr.c, .int .i64 y.eg, .slice y.ed.p y.ed.n y.ed.c, .int .i64 y.ik, .slice y.id.p y.id.n y.id.c, .int .i64 y.am, .slice y.ad.p y.ad.n y.ad.c, .int .i64 y.np, .slice y.ns.p y.ns.n y.ns.c, .int .i64 y.nt, .slice y.nd.p y.nd.n y.nd.c, .int .i64 y.dp, .slice y.ds.p y.ds.n y.ds.c, .slice y.se.p y.se.n y.se.c, .slice y.da.p y.da.n y.da.c] 40)).heap.size := by simp; omega
  generalize hwe : (w4.alloc (.cells #[.int .i64 x.t, .slice x.pr.p x.pr.n x.pr.c, .int .i64 x.eg, .slice x.ed.p x.ed.n x.ed.c, .int .i64 x.ik, .slice x.id.p x.id.n x.id.c, .int .i64 x.am, .slice x.ad.p x.ad.n x.ad.c, .int .i64 x.np, .slice x.ns.p x.ns.n x.ns.c, .int .i64 x.nt, .slice x.nd.p x.nd.n x.nd.c, .int .i64 x.dp, .slice x.ds.p x.ds.n x.ds.c, .slice x.se.p x.se.n x.se.c, .slice x.da.p x.da.n x.da.c] 40)).alloc (.cells #[.int .i64 y.t, .slice y.pr.p y.pr.n y.pr.c, .int .i64 y.eg, .slice y.ed.p y.ed.n y.ed.c, .int .i64 y.ik, .slice y.id.p y.id.n y.id.c, .int .i64 y.am, .slice y.ad.p y.ad.n y.ad.c, .int .i64 y.np, .slice y.ns.p y.ns.n y.ns.c, .int .i64 y.nt, .slice y.nd.p y.nd.n y.nd.c, .int .i64 y.dp, .slice y.ds.p y.ds.n y.ds.c, .slice y.se.p y.se.n y.se.c, .slice y.da.p y.da.n y.da.c] 40) = w5 at *
  have hg4 : k < w4.heap.size := by omega
  generalize w4.heap.size = g4 at *
  have HSP := hidden (spoil_cut w w5 k hc5 w2.heap.size hk2 (by omega) x C hp5 hw5 HL.out hn2 hs2 HTS.out)
  have HP5 := hidden hp5
  have HQ5 := hidden hq5
  have HX5 := hidden hx5
  have HY5 := hidden hy5
  clear hwe hx5 hy5 hc5 hp5 hq5 hw5 HC4 HP4 HQ4 HW4 HTS HL
  go_at_call 10
  refine (HSP.out).mono ?_
  rintro e w6 ⟨z, Z, rfl, hz, hc, hg⟩
  have hx7 := (HX5.out.grown hg (by simp; omega)).alloc (.cells #[.int .i64 z.t, .slice z.pr.p z.pr.n z.pr.c, .int .i64 z.eg, .slice z.ed.p z.ed.n z.ed.c, .int .i64 z.ik, .slice z.id.p z.id.n z.id.c, .int .i64 z.am, .slice z.ad.p z.ad.n z.ad.c, .int .i64 z.np, .slice z.ns.p z.ns.n z.ns.c, .int .i64 z.nt, .slice z.nd.p z.nd.n z.nd.c, .int .i64 z.dp, .slice z.ds.p z.ds.n z.ds.c, .slice z.se.p z.se.n z.se.c, .slice z.da.p z.da.n z.da.c] 40)
  have hy7 := (HY5.out.grown hg (by simp; omega)).alloc (.cells #[.int .i64 z.t, .slice z.pr.p z.pr.n z.pr.c, .int .i64 z.eg, .slice z.ed.p z.ed.n z.ed.c, .int .i64 z.ik, .slice z.id.p z.id.n z.id.c, .int .i64 z.am, .slice z.ad.p z.ad.n z.ad.c, .int .i64 z.np, .slice z.ns.p z.ns.n z.ns.c, .int .i64 z.nt, .slice z.nd.p z.nd.n z.nd.c, .int .i64 z.dp, .slice z.ds.p z.ds.n z.ds.c, .slice z.se.p z.se.n z.se.c, .slice z.da.p z.da.n z.da.c] 40)
  have hz7 := PvIn.new w6 z 40
  have hp7 := (HP5.out.step (Kpt.low hg hk2)).step (Kpt.alloc w6 (.cells #[.int .i64 z.t, .slice z.pr.p z.pr.n z.pr.c, .int .i64 z.eg, .slice z.ed.p z.ed.n z.ed.c, .int .i64 z.ik, .slice z.id.p z.id.n z.id.c, .int .i64 z.am, .slice z.ad.p z.ad.n z.ad.c, .int .i64 z.np, .slice z.ns.p z.ns.n z.ns.c, .int .i64 z.nt, .slice z.nd.p z.nd.n z.nd.c, .int .i64 z.dp, .slice z.ds.p z.ds.n z.ds.c, .slice z.se.p z.se.n z.se.c, .slice z.da.p z.da.n z.da.c] 40) _)
  have hq7 := (HQ5.out.step (Kpt.low hg hk2)).step (Kpt.alloc w6 (.cells #[.int .i64 z.t, .slice z.pr.p z.pr.n z.pr.c, .int .i64 z.eg, .slice z.ed.p z.ed.n z.ed.c, .int .i64 z.ik, .slice z.id.p z.id.n z.id.c, .int .i64 z.am, .slice z.ad.p z.ad.n z.ad.c, .int .i64 z.np, .slice z.ns.p z.ns.n z.ns.c, .int .i64 z.nt, .slice z.nd.p z.nd.n z.nd.c, .int .i64 z.dp, .slice z.ds.p z.ds.n z.ds.c, .slice z.se.p z.se.n z.se.c, .slice z.da.p z.da.n z.da.c] 40) _)
  have hs7 := hz.step (Kpt.alloc w6 (.cells #[.int .i64 z.t, .slice z.pr.p z.pr.n z.pr.c, .int .i64 z.eg, .slice z.ed.p z.ed.n z.ed.c, .int .i64 z.ik, .slice z.id.p z.id.n z.id.c, .int .i64 z.am, .slice z.ad.p z.ad.n z.ad.c, .int .i64 z.np, .slice z.ns.p z.ns.n z.ns.c, .int .i64 z.nt, .slice z.nd.p z.nd.n z.nd.c, .int .i64 z.dp, .slice z.ds.p z.ds.n z.ds.c, .slice z.se.p z.se.n z.se.c, .slice z.da.p z.da.n z.da.c] 40) _)
  have hb7 := (hc.alloc (.cells #[.int .i64 z.t, .slice z.pr.p z.pr.n z.pr.c, .int .i64 z.eg, .slice z.ed.p z.ed.n z.ed.c, .int .i64 z.ik, .slice z.id.p z.id.n z.id.c, .int .i64 z.am, .slice z.ad.p z.ad.n z.ad.c, .int .i64 z.np, .slice z.ns.p z.ns.n z.ns.c, .int .i64 z.nt, .slice z.nd.p z.nd.n z.nd.c, .int .i64 z.dp, .slice z.ds.p z.ds.n z.ds.c, .slice z.se.p z.se.n z.se.c, .slice z.da.p z.da.n z.da.c] 40)).bel
  clear hz hc hg HSP HX5 HY5 HP5 HQ5
  go_upto_region 6 with fail
  generalize hwe : w6.alloc (.cells #[.int .i64 z.t, .slice z.pr.p z.pr.n z.pr.c, .int .i64 z.eg, .slice z.ed.p z.ed.n z.ed.c, .int .i64 z.ik, .slice z.id.p z.id.n z.id.c, .int .i64 z.am, .slice z.ad.p z.ad.n z.ad.c, .int .i64 z.np, .slice z.ns.p z.ns.n z.ns.c, .int .i64 z.nt, .slice z.nd.p z.nd.n z.nd.c, .int .i64 z.dp, .slice z.ds.p z.ds.n z.ds.c, .slice z.se.p z.se.n z.se.c, .slice z.da.p z.da.n z.da.c] 40) = w7 at *
  generalize w6.heap.size = g6 at *
  have HB7 := hidden hb7
  have HKC := hidden (fun W (hb : Below w7.heap.size w7 W) => (⟨(hx7.below hb).pvl, (hy7.below hb).pvl, (hz7.below hb).pvl⟩ : PvL W g4 (.agg #[.int .i64 x.t, .slice x.pr.p x.pr.n x.pr.c, .int .i64 x.eg, .slice x.ed.p x.ed.n x.ed.c, .int .i64 x.ik, .slice x.id.p x.id.n x.id.c, .int .i64 x.am, .slice x.ad.p x.ad.n x.ad.c, .int .i64 x.np, .slice x.ns.p x.ns.n x.ns.c, .int .i64 x.nt, .slice x.nd.p x.nd.n x.nd.c, .int .i64 x.dp, .slice x.ds.p x.ds.n x.ds.c, .slice x.se.p x.se.n x.se.c, .slice x.da.p x.da.n x.da.c]) ∧ PvL W (g4 + 1) (.agg #[.int .i64 y.t, .slice y.pr.p y.pr.n y.pr.c, .int .i64 y.eg, .slice y.ed.p y.ed.n y.ed.c, .int .i64 y.ik, .slice y.id.p y.id.n y.id.c, .int .i64 y.am, .slice y.ad.p y.ad.n y.ad.c, .int .i64 y.np, .slice y.ns.p y.ns.n y.ns.c, .int .i64 y.nt, .slice y.nd.p y.nd.n y.nd.c, .int .i64 y.dp, .slice y.ds.p y.ds.n y.ds.c, .slice y.se.p y.se.n y.se.c, .slice y.da.p y.da.n y.da.c]) ∧ PvL W g6 (.agg #[.int .i64 z.t, .slice z.pr.p z.pr.n z.pr.c, .int .i64 z.eg, .slice z.ed.p z.ed.n z.ed.c, .int .i64 z.ik, .slice z.id.p z.id.n z.id.c, .int .i64 z.am, .slice z.ad.p z.ad.n z.ad.c, .int .i64 z.np, .slice z.ns.p z.ns.n z.ns.c, .int .i64 z.nt, .slice z.nd.p z.nd.n z.nd.c, .int .i64 z.dp, .slice z.ds.p z.ds.n z.ds.c, .slice z.se.p z.se.n z.se.c, .slice z.da.p z.da.n z.da.c])))
  obtain ⟨b1, hb1⟩ : ∃ b, sameV x C y D = b := ⟨_, rfl⟩
  obtain ⟨b2, hb2⟩ : ∃ b, sameV x C z Z = b := ⟨_, rfl⟩
  have HPQ := hidden (fun W (hb : Below w7.heap.size w7 W) => psame_any x y C D W (hp7.rd.below hb) (hq7.rd.below hb))
  have HRQ := hidden (fun W (hb : Below w7.heap.size w7 W) => rsame_any x y C D W (hp7.rd.below hb) (hq7.rd.below hb))
  have HPS := hidden (fun W (hb : Below w7.heap.size w7 W) => psame_any x z C Z W (hp7.rd.below hb) (hs7.rd.below hb))
  have HRS := hidden (fun W (hb : Below w7.heap.size w7 W) => rsame_any x z C Z W (hp7.rd.below hb) (hs7.rd.below hb))
  have HPP := hidden (fun W (hb : Below w7.heap.size w7 W) => psame_any x x C C W (hp7.rd.below hb) (hp7.rd.below hb))
  have HSS := hidden (fun W (hb : Below w7.heap.size w7 W) => psame_any z z Z Z W (hs7.rd.below hb) (hs7.rd.below hb))
  rw [hb1] at HPQ HRQ
  obtain ⟨vx, hvx⟩ : ∃ v : Value, (.agg #[.int .i64 x.t, .slice x.pr.p x.pr.n x.pr.c, .int .i64 x.eg, .slice x.ed.p x.ed.n x.ed.c, .int .i64 x.ik, .slice x.id.p x.id.n x.id.c, .int .i64 x.am, .slice x.ad.p x.ad.n x.ad.c, .int .i64 x.np, .slice x.ns.p x.ns.n x.ns.c, .int .i64 x.nt, .slice x.nd.p x.nd.n x.nd.c, .int .i64 x.dp, .slice x.ds.p x.ds.n x.ds.c, .slice x.se.p x.se.n x.se.c, .slice x.da.p x.da.n x.da.c]) = v := ⟨_, rfl⟩
  obtain ⟨vy, hvy⟩ : ∃ v : Value, (.agg #[.int .i64 y.t, .slice y.pr.p y.pr.n y.pr.c, .int .i64 y.eg, .slice y.ed.p y.ed.n y.ed.c, .int .i64 y.ik, .slice y.id.p y.id.n y.id.c, .int .i64 y.am, .slice y.ad.p y.ad.n y.ad.c, .int .i64 y.np, .slice y.ns.p y.ns.n y.ns.c, .int .i64 y.nt, .slice y.nd.p y.nd.n y.nd.c, .int .i64 y.dp, .slice y.ds.p y.ds.n y.ds.c, .slice y.se.p y.se.n y.se.c, .slice y.da.p y.da.n y.da.c]) = v := ⟨_, rfl⟩
  obtain ⟨vz, hvz⟩ : ∃ v : Value, (.agg #[.int .i64 z.t, .slice z.pr.p z.pr.n z.pr.c, .int .i64 z.eg, .slice z.ed.p z.ed.n z.ed.c, .int .i64 z.ik, .slice z.id.p z.id.n z.id.c, .int .i64 z.am, .slice z.ad.p z.ad.n z.ad.c, .int .i64 z.np, .slice z.ns.p z.ns.n z.ns.c, .int .i64 z.nt, .slice z.nd.p z.nd.n z.nd.c, .int .i64 z.dp, .slice z.ds.p z.ds.n z.ds.c, .slice z.se.p z.se.n z.se.c, .slice z.da.p z.da.n z.da.c]) = v := ⟨_, rfl⟩
  rw [hb2] at HPS HRS
  rw [sameV_refl] at HPP HSS
  rw [hvx] at HPP HKC
  rw [hvx, hvy] at HPQ HRQ
  rw [hvx, hvz] at HPS HRS
  rw [hvz] at HSS HKC
  rw [hvy] at HKC
  clear hvx hvy hvz
  have e1 : (b1 == b1) = true := by simp
  have e2 : (b2 == b2) = true := by simp
  have HB := hidden (show Below w7.heap.size w7 w7.drew from drew_below ⟨1, rfl⟩)
  clear hwe hx7 hy7 hz7 hp7 hq7 hs7 hb7 hb1 hb2
  go_upto_region 6 with fail
  have EP := enters_of Tryd.func11 (by kernel_rfl) rfl
  have ER := enters_of Tryd.func12 (by kernel_rfl) rfl
  refine region_q (C := fun W => Below w7.heap.size w7 W) (m := 44) (p4 := .pointer (some ⟨g4, 0, none⟩)) (p5 := .pointer (some ⟨g4 + 1, 0, none⟩)) (p6 := .pointer (some ⟨g6, 0, none⟩)) (by kernel_rfl) (by kernel_rfl) HB.out ⟨rfl, rfl, rfl, rfl, rfl⟩ ?_
  intro a0 f0
  refine step_q (d := 18) (v := vx) rfl rfl (fun K hK => quiet_load _ _ rfl g4 f0.e4 vx (fun W hW => (HKC.out W hW).1.run) hK) f0 (by decide) (by decide) ?_; intro a1 f1 r18 k1
  clear k1 f0
  refine step_q (d := 19) (v := vy) rfl rfl (fun K hK => quiet_load _ _ rfl (g4 + 1) f1.e5 vy (fun W hW => (HKC.out W hW).2.1.run) hK) f1 (by decide) (by decide) ?_; intro a2 f2 r19 k2
  replace r18 := (k2 18 (by decide)).trans r18
  clear k2 f1
  refine step_q (d := 20) (v := (.bool b1)) rfl rfl (fun K hK => quiet_call 11 EP #[vx, vy] (by rw [execOp_call_go]; simp [r18, r19]) (.bool b1) (fun W hW => (HPQ.out W hW).mono fun e W' h => ⟨h.1, hW.trans (h.2.mono hW.size)⟩) hK) f2 (by decide) (by decide) ?_; intro a3 f3 r20 k3
  replace r18 := (k3 18 (by decide)).trans r18
  replace r19 := (k3 19 (by decide)).trans r19
  clear k3 f2
  refine step_q (d := 21) (v := vx) rfl rfl (fun K hK => quiet_load _ _ rfl g4 f3.e4 vx (fun W hW => (HKC.out W hW).1.run) hK) f3 (by decide) (by decide) ?_; intro a4 f4 r21 k4
  replace r20 := (k4 20 (by decide)).trans r20
  clear k4 f3
  refine step_q (d := 22) (v := vy) rfl rfl (fun K hK => quiet_load _ _ rfl (g4 + 1) f4.e5 vy (fun W hW => (HKC.out W hW).2.1.run) hK) f4 (by decide) (by decide) ?_; intro a5 f5 r22 k5
  replace r20 := (k5 20 (by decide)).trans r20
  replace r21 := (k5 21 (by decide)).trans r21
  clear k5 f4
  refine step_q (d := 23) (v := (.bool b1)) rfl rfl (fun K hK => quiet_call 12 ER #[vx, vy] (by rw [execOp_call_go]; simp [r21, r22]) (.bool b1) (fun W hW => (HRQ.out W hW).mono fun e W' h => ⟨h.1, hW.trans (h.2.mono hW.size)⟩) hK) f5 (by decide) (by decide) ?_; intro a6 f6 r23 k6
  replace r20 := (k6 20 (by decide)).trans r20
  replace r21 := (k6 21 (by decide)).trans r21
  replace r22 := (k6 22 (by decide)).trans r22
  clear k6 f5
  refine step_q (d := 24) (v := (.bool true)) rfl rfl (fun K hK => quiet_eql _ _ _ _ rfl b1 r20 r23 Tryd.underlying4 hK) f6 (by decide) (by decide) ?_; intro a7 f7 r24 k7
  replace r20 := (k7 20 (by decide)).trans r20
  replace r23 := (k7 23 (by decide)).trans r23
  clear k7 f6
  refine step_q (d := 25) (v := (.bool true)) rfl rfl (fun K hK => quiet_move' _ rfl _ r24 hK) f7 (by decide) (by decide) ?_; intro a8 f8 r25 k8
  replace r24 := (k8 24 (by decide)).trans r24
  clear k8 f7
  refine step_q (d := 26) (v := vx) rfl (want_g 7 25 true rfl rfl r25) (fun K hK => quiet_load _ _ rfl g4 f8.e4 vx (fun W hW => (HKC.out W hW).1.run) hK) f8 (by decide) (by decide) ?_; intro a9 f9 r26 k9
  replace r25 := (k9 25 (by decide)).trans r25
  clear k9 f8
  refine step_q (d := 27) (v := vz) rfl (want_g 7 25 true rfl rfl r25) (fun K hK => quiet_load _ _ rfl g6 f9.e6 vz (fun W hW => (HKC.out W hW).2.2.run) hK) f9 (by decide) (by decide) ?_; intro a10 f10 r27 k10
  replace r25 := (k10 25 (by decide)).trans r25
  replace r26 := (k10 26 (by decide)).trans r26
  clear k10 f9
  refine step_q (d := 28) (v := (.bool b2)) rfl (want_g 7 25 true rfl rfl r25) (fun K hK => quiet_call 11 EP #[vx, vz] (by rw [execOp_call_go]; simp [r26, r27]) (.bool b2) (fun W hW => (HPS.out W hW).mono fun e W' h => ⟨h.1, hW.trans (h.2.mono hW.size)⟩) hK) f10 (by decide) (by decide) ?_; intro a11 f11 r28 k11
  replace r25 := (k11 25 (by decide)).trans r25
  replace r26 := (k11 26 (by decide)).trans r26
  replace r27 := (k11 27 (by decide)).trans r27
  clear k11 f10
  refine step_q (d := 29) (v := vx) rfl (want_g 7 25 true rfl rfl r25) (fun K hK => quiet_load _ _ rfl g4 f11.e4 vx (fun W hW => (HKC.out W hW).1.run) hK) f11 (by decide) (by decide) ?_; intro a12 f12 r29 k12
  replace r25 := (k12 25 (by decide)).trans r25
  replace r28 := (k12 28 (by decide)).trans r28
  clear k12 f11
  refine step_q (d := 30) (v := vz) rfl (want_g 7 25 true rfl rfl r25) (fun K hK => quiet_load _ _ rfl g6 f12.e6 vz (fun W hW => (HKC.out W hW).2.2.run) hK) f12 (by decide) (by decide) ?_; intro a13 f13 r30 k13
  replace r25 := (k13 25 (by decide)).trans r25
  replace r28 := (k13 28 (by decide)).trans r28
  replace r29 := (k13 29 (by decide)).trans r29
  clear k13 f12
  refine step_q (d := 31) (v := (.bool b2)) rfl (want_g 7 25 true rfl rfl r25) (fun K hK => quiet_call 12 ER #[vx, vz] (by rw [execOp_call_go]; simp [r29, r30]) (.bool b2) (fun W hW => (HRS.out W hW).mono fun e W' h => ⟨h.1, hW.trans (h.2.mono hW.size)⟩) hK) f13 (by decide) (by decide) ?_; intro a14 f14 r31 k14
  replace r25 := (k14 25 (by decide)).trans r25
  replace r28 := (k14 28 (by decide)).trans r28
  replace r29 := (k14 29 (by decide)).trans r29
  replace r30 := (k14 30 (by decide)).trans r30
  clear k14 f13
  refine step_q (d := 32) (v := (.bool true)) rfl (want_g 7 25 true rfl rfl r25) (fun K hK => quiet_eql _ _ _ _ rfl b2 r28 r31 Tryd.underlying4 hK) f14 (by decide) (by decide) ?_; intro a15 f15 r32 k15
  replace r25 := (k15 25 (by decide)).trans r25
  replace r28 := (k15 28 (by decide)).trans r28
  replace r31 := (k15 31 (by decide)).trans r31
  clear k15 f14
  refine step_q (d := 33) (v := (.bool true)) rfl rfl (fun K hK => quiet_pick _ _ _ rfl _ r25 r32 hK) f15 (by decide) (by decide) ?_; intro a16 f16 r33 k16
  replace r25 := (k16 25 (by decide)).trans r25
  replace r32 := (k16 32 (by decide)).trans r32
  clear k16 f15
  refine step_q (d := 34) (v := (.bool true)) rfl rfl (fun K hK => quiet_move' _ rfl _ r33 hK) f16 (by decide) (by decide) ?_; intro a17 f17 r34 k17
  replace r33 := (k17 33 (by decide)).trans r33
  clear k17 f16
  refine step_q (d := 35) (v := vx) rfl (want_g 16 34 true rfl rfl r34) (fun K hK => quiet_load _ _ rfl g4 f17.e4 vx (fun W hW => (HKC.out W hW).1.run) hK) f17 (by decide) (by decide) ?_; intro a18 f18 r35 k18
  replace r34 := (k18 34 (by decide)).trans r34
  clear k18 f17
  refine step_q (d := 36) (v := vx) rfl (want_g 16 34 true rfl rfl r34) (fun K hK => quiet_load _ _ rfl g4 f18.e4 vx (fun W hW => (HKC.out W hW).1.run) hK) f18 (by decide) (by decide) ?_; intro a19 f19 r36 k19
  replace r34 := (k19 34 (by decide)).trans r34
  replace r35 := (k19 35 (by decide)).trans r35
  clear k19 f18
  refine step_q (d := 37) (v := (.bool true)) rfl (want_g 16 34 true rfl rfl r34) (fun K hK => quiet_call 11 EP #[vx, vx] (by rw [execOp_call_go]; simp [r35, r36]) (.bool true) (fun W hW => (HPP.out W hW).mono fun e W' h => ⟨h.1, hW.trans (h.2.mono hW.size)⟩) hK) f19 (by decide) (by decide) ?_; intro a20 f20 r37 k20
  replace r34 := (k20 34 (by decide)).trans r34
  replace r35 := (k20 35 (by decide)).trans r35
  replace r36 := (k20 36 (by decide)).trans r36
  clear k20 f19
  refine step_q (d := 38) (v := (.bool true)) rfl rfl (fun K hK => quiet_pick _ _ _ rfl _ r34 r37 hK) f20 (by decide) (by decide) ?_; intro a21 f21 r38 k21
  replace r34 := (k21 34 (by decide)).trans r34
  replace r37 := (k21 37 (by decide)).trans r37
  clear k21 f20
  refine step_q (d := 39) (v := (.bool true)) rfl rfl (fun K hK => quiet_move' _ rfl _ r38 hK) f21 (by decide) (by decide) ?_; intro a22 f22 r39 k22
  replace r38 := (k22 38 (by decide)).trans r38
  clear k22 f21
  refine step_q (d := 40) (v := vz) rfl (want_g 21 39 true rfl rfl r39) (fun K hK => quiet_load _ _ rfl g6 f22.e6 vz (fun W hW => (HKC.out W hW).2.2.run) hK) f22 (by decide) (by decide) ?_; intro a23 f23 r40 k23
  replace r39 := (k23 39 (by decide)).trans r39
  clear k23 f22
  refine step_q (d := 41) (v := vz) rfl (want_g 21 39 true rfl rfl r39) (fun K hK => quiet_load _ _ rfl g6 f23.e6 vz (fun W hW => (HKC.out W hW).2.2.run) hK) f23 (by decide) (by decide) ?_; intro a24 f24 r41 k24
  replace r39 := (k24 39 (by decide)).trans r39
  replace r40 := (k24 40 (by decide)).trans r40
  clear k24 f23
  refine step_q (d := 42) (v := (.bool true)) rfl (want_g 21 39 true rfl rfl r39) (fun K hK => quiet_call 11 EP #[vz, vz] (by rw [execOp_call_go]; simp [r40, r41]) (.bool true) (fun W hW => (HSS.out W hW).mono fun e W' h => ⟨h.1, hW.trans (h.2.mono hW.size)⟩) hK) f24 (by decide) (by decide) ?_; intro a25 f25 r42 k25
  replace r39 := (k25 39 (by decide)).trans r39
  replace r40 := (k25 40 (by decide)).trans r40
  replace r41 := (k25 41 (by decide)).trans r41
  clear k25 f24
  refine step_q (d := 43) (v := (.bool true)) rfl rfl (fun K hK => quiet_pick _ _ _ rfl _ r39 r42 hK) f25 (by decide) (by decide) ?_; intro a26 f26 r43 k26
  replace r39 := (k26 39 (by decide)).trans r39
  replace r42 := (k26 42 (by decide)).trans r42
  clear k26 f25
  refine step_q (d := 2) (v := (.bool true)) rfl rfl (fun K hK => quiet_assign' _ rfl _ r43 hK) f26 (by decide) (by decide) ?_; intro a27 f27 r2 k27
  replace r43 := (k27 43 (by decide)).trans r43
  clear k27 f26
  refine wpQuiet_nil ?_
  intro W hW
  rename_i hret
  refine hret _ _ ?_
  go_wp2
  refine bodyPost_ret (results_tmp rfl _ _ _) f27.d ?_
  exact ⟨congrArg Ending.returned r2, HB7.out.trans (hW.mono HB7.out.size)⟩
end Go.Proofs.YtmjagbghgbemaaaDoor
