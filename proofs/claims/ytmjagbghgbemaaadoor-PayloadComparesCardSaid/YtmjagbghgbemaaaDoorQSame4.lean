/-
  What the document's own Same says of two lists of proposals that read alike.
-/
import Derived.Test.YtmjagbghgbemaaaDoorQZ0
import Derived.Test.YtmjagbghgbemaaaDoorQRCompare
import Derived.Deep.QuietTactic
import Derived.BigQuiet
namespace Go.Proofs.YtmjagbghgbemaaaDoor
open Go.RowKit
set_option linter.unusedVariables false

theorem eql_trN (w : World) (a b c : Int) : (binOp .neq 100 (.agg #[.int .i64 a, .int .i64 b, .int .i64 c]) (.agg #[.int .i64 a, .int .i64 b, .int .i64 c])).run Tryd.prog w = .ok (.bool false) w := by
  go_simp

set_option maxHeartbeats 3200000 in
set_option maxRecDepth 100000 in
theorem same_alike (p q : Option Addr) (n c d : Nat) (la lb : List PrP) (w : World) (h : RdG KPr DPr w p n c la) (k : RdG KPr DPr w q n d lb) (e : la.map PrP.pr = lb.map PrP.pr) :
    Calls Tryd.prog 35 #[.slice p n c, .slice q n d] w fun e w' => e = .returned (.bool true) ∧ Below w.heap.size w w' := by
  have hn := h.le
  have HA := hidden h
  have HB := hidden k
  have HE := hidden e
  clear h k e
  go_enter Tryd.func35, Tryd.ntmps35
  go_wp2_with fail
  go_loopw [5] (fun i wr => ∃ j : Nat, j ≤ n ∧ i = .int .i64 j ∧ Below w.heap.size w wr) (fun i _ => n - (intOf i).toNat)
  case atStart => exact ⟨0, by omega, rfl, Below.refl _ _⟩
  case round =>
    obtain ⟨j, hj, rfl, hbel⟩ := hrel
    have HBL := hidden hbel
    clear hbel
    by_cases hlt : ¬ j < n
    · obtain rfl : j = n := by omega
      go_wp2
      go_ret
      exact ⟨rfl, HBL.out⟩
    replace hlt : j < n := by omega
    have hlt' : (j : Int) < n := by omega
    obtain ⟨g, rfl, hc, hok⟩ := (HA.out.below HBL.out).cell j (by rw [HA.out.len]; exact hlt)
    obtain ⟨g2, rfl, hc2, hok2⟩ := (HB.out.below HBL.out).cell j (by rw [HB.out.len]; exact hlt)
    obtain ⟨x, hx⟩ : ∃ x, la[j]'(by rw [HA.out.len]; exact hlt) = x := ⟨_, rfl⟩
    obtain ⟨y, hy⟩ : ∃ y, lb[j]'(by rw [HB.out.len]; exact hlt) = y := ⟨_, rfl⟩
    have hxy : x.pr = y.pr := by
      have h1 : (la.map PrP.pr)[j]? = some x.pr := by rw [List.getElem?_map, List.getElem?_eq_getElem (by rw [HA.out.len]; exact hlt), hx]; rfl
      have h2 : (lb.map PrP.pr)[j]? = some y.pr := by rw [List.getElem?_map, List.getElem?_eq_getElem (by rw [HB.out.len]; exact hlt), hy]; rfl
      rw [HE.out, h2] at h1
      simpa using h1.symm
    rw [hx] at hc hok
    rw [hy] at hc2 hok2
    obtain ⟨xn, xp, xsp, xsn, xsc, xs, xtp, xtn, xtc, xts⟩ := x
    obtain ⟨yn, yp, ysp, ysn, ysc, ys, ytp, ytn, ytc, yts⟩ := y
    simp only [PrP.pr, Pr.mk.injEq] at hxy
    obtain ⟨rfl, rfl, rfl, rfl⟩ := hxy
    have es : xsn = ysn := hok.s.len.symm.trans hok2.s.len
    have et : xtn = ytn := hok.ts.len.symm.trans hok2.ts.len
    subst es et
    have c0 := hc 0 _ rfl
    have c1 := hc 1 _ rfl
    have c2 := hc 2 _ rfl
    have c3 := hc 3 _ rfl
    have d0 := hc2 0 _ rfl
    have d1 := hc2 1 _ rfl
    have d2 := hc2 2 _ rfl
    have d3 := hc2 3 _ rfl
    simp only [KPr, Nat.add_zero] at c0 c1 c2 c3 d0 d1 d2 d3
    have hq1 : (xn != xn) = false := by simp
    have hq2 : (xp != xp) = false := by simp
    have hq3 : ((xtn : Int) != xtn) = false := by simp
    have hxtn := hok.ts.le
    have hby1 : Byt wr xsp xsn xsc xs := hok.s
    have hby2 : Byt wr ysp xsn ysc xs := hok2.s
    have HQ := hidden (fun a => (requal_any xsp ysp xsn xsc xsn ysc xs xs (wr.drewN a) (hby1.keep (fun _ _ h => h)) (hby2.keep (fun _ _ h => h))).mono (R' := fun e w' => e = .returned (.bool true) ∧ ∃ r, w' = (wr.drewN a).drewN r) (fun e w' ⟨h1, h2⟩ => ⟨by rw [h1]; simp, h2⟩))
    have hcA := hc
    have hcB := hc2
    have HCA := hidden (fun W (hb : Below wr.heap.size wr W) => cell_below hb _ _ (hc 3 _ rfl))
    have HCB := hidden (fun W (hb : Below wr.heap.size wr W) => cell_below hb _ _ (hc2 3 _ rfl))
    have HTA : Hid (RdG KTr DTr wr xtp xtn xtc xts) := hidden hok.ts
    have HTB : Hid (RdG KTr DTr wr ytp xtn ytc xts) := hidden hok2.ts
    simp only [KPr] at HCA HCB
    clear hc hc2 hok hok2 hx hy hcA hcB hby1 hby2
    go_wp2
    go_quiet ((go_at_call 14; (with_reducible exact Calls.quiet_of (HQ.out _))))
    have HBQ := hidden (drew_below (B := wr.heap.size) (w := wr) (w' := wr.drewN nq) ⟨nq, rfl⟩)
    clear c0 c1 c2 c3 d0 d1 d2 d3 hq1 hq2 hq3 HQ
    go_wp2_with fail
    go_loopw [6] (fun i wq => ∃ t : Nat, t ≤ xtn ∧ i = .int .i64 t ∧ Below wr.heap.size wr wq) (fun i _ => xtn - (intOf i).toNat)
    case atStart => exact ⟨0, by omega, rfl, HBQ.out⟩
    case round =>
      obtain ⟨t, ht, rfl, hbq⟩ := hrel
      have e3 := HCA.out _ hbq
      have f3 := HCB.out _ hbq
      have HB2 := hidden hbq
      by_cases htl : ¬ t < xtn
      · obtain rfl : t = xtn := by omega
        clear hbq
        go_wp2
        go_roundw
        case rel => exact ⟨j + 1, by omega, by go_num, HBL.out.trans (HB2.out.mono HBL.out.size)⟩
        case measure => simp [intOf]; omega
      replace htl : t < xtn := by omega
      have htl' : (t : Int) < xtn := by omega
      obtain ⟨ga, rfl, ha, -⟩ := (HTA.out.below hbq).cell t (by rw [HTA.out.len]; exact htl)
      obtain ⟨gb, rfl, hb, -⟩ := (HTB.out.below hbq).cell t (by rw [HTB.out.len]; exact htl)
      obtain ⟨z, hz⟩ : ∃ z, xts[t]'(by rw [HTA.out.len]; exact htl) = z := ⟨_, rfl⟩
      rw [hz] at ha hb
      obtain ⟨zt, zi, zk⟩ := z
      have a0 := ha 0 _ rfl
      have a1 := ha 1 _ rfl
      have a2 := ha 2 _ rfl
      have b0 := hb 0 _ rfl
      have b1 := hb 1 _ rfl
      have b2 := hb 2 _ rfl
      simp only [KTr, Nat.add_zero] at a0 a1 a2 b0 b1 b2
      have hqe := fun w => eql_trN w zt zi zk
      clear ha hb hz hbq
      go_wp2_with fail
      go_region
      all_goals
        go_wp2
        go_roundw
        case rel => exact ⟨t + 1, by omega, by go_num, HB2.out.trans (drew_below ⟨1, rfl⟩)⟩
        case measure => simp [intOf]; omega
end Go.Proofs.YtmjagbghgbemaaaDoor
