/-
  What the document's own Same says of two lists of proposals that read alike.
  A map of the call's own from transforms to bools that holds just those of a list.
-/
import Derived.Test.YtpocehpejbnemaaDoorRZ0
import Derived.Test.YtpocehpejbnemaaDoorRZ17
import Derived.Deep.QuietTactic
import Derived.BigQuiet
import Derived.Maps.OwnOps
import Derived.Maps.Views
import Derived.DeepKeys4
namespace Go.Proofs.YtpocehpejbnemaaDoor
open Go.RowKit
set_option linter.unusedVariables false

theorem eql_trN (w : World) (a b c : Int) : (binOp .neq 113 (.agg #[.int .i64 a, .int .i64 b, .int .i64 c]) (.agg #[.int .i64 a, .int .i64 b, .int .i64 c])).run Tryd.prog w = .ok (.bool false) w := by
  go_simp

set_option maxHeartbeats 3200000 in
set_option maxRecDepth 100000 in
theorem same_alike (p q : Option Addr) (n c d : Nat) (la lb : List PrP) (w : World) (h : RdG KPr DPr w p n c la) (k : RdG KPr DPr w q n d lb) (e : la.map PrP.pr = lb.map PrP.pr) :
    Calls Tryd.prog 31 #[.slice p n c, .slice q n d] w fun e w' => e = .returned (.bool true) ∧ Below w.heap.size w w' := by
  have hn := h.le
  have HA := hidden h
  have HB := hidden k
  have HE := hidden e
  clear h k e
  go_enter Tryd.func31, Tryd.ntmps31
  go_wp2_with fail
  go_loopw [5] (fun i wr => ∃ j : Nat, j ≤ n ∧ i = .int .i64 j ∧ Below w.heap.size w wr) (fun i _ => n - (intOf i).toNat)
  case atStart => exact ⟨0, by omega, rfl, Below.refl _ _⟩
  case round =>
    obtain ⟨j, hj, rfl, hbel⟩ := hrel
    have HBL := hidden hbel
    clear hbel
    by_cases hlt : ¬ j < n
    · obtain rfl : j = n := by omega
      go_wp2
      go_ret
      exact ⟨rfl, HBL.out⟩
    replace hlt : j < n := by omega
    have hlt' : (j : Int) < n := by omega
    obtain ⟨g, rfl, hc, hok⟩ := (HA.out.below HBL.out).cell j (by rw [HA.out.len]; exact hlt)
    obtain ⟨g2, rfl, hc2, hok2⟩ := (HB.out.below HBL.out).cell j (by rw [HB.out.len]; exact hlt)
    obtain ⟨x, hx⟩ : ∃ x, la[j]'(by rw [HA.out.len]; exact hlt) = x := ⟨_, rfl⟩
    obtain ⟨y, hy⟩ : ∃ y, lb[j]'(by rw [HB.out.len]; exact hlt) = y := ⟨_, rfl⟩
    have hxy : x.pr = y.pr := by
      have h1 : (la.map PrP.pr)[j]? = some x.pr := by rw [List.getElem?_map, List.getElem?_eq_getElem (by rw [HA.out.len]; exact hlt), hx]; rfl
      have h2 : (lb.map PrP.pr)[j]? = some y.pr := by rw [List.getElem?_map, List.getElem?_eq_getElem (by rw [HB.out.len]; exact hlt), hy]; rfl
      rw [HE.out, h2] at h1
      simpa using h1.symm
    rw [hx] at hc hok
    rw [hy] at hc2 hok2
    obtain ⟨xn, xp, xsp, xsn, xsc, xs, xtp, xtn, xtc, xts⟩ := x
    obtain ⟨yn, yp, ysp, ysn, ysc, ys, ytp, ytn, ytc, yts⟩ := y
    simp only [PrP.pr, Pr.mk.injEq] at hxy
    obtain ⟨rfl, rfl, rfl, rfl⟩ := hxy
    have es : xsn = ysn := hok.s.len.symm.trans hok2.s.len
    have et : xtn = ytn := hok.ts.len.symm.trans hok2.ts.len
    subst es et
    have c0 := hc 0 _ rfl
    have c1 := hc 1 _ rfl
    have c2 := hc 2 _ rfl
    have c3 := hc 3 _ rfl
    have d0 := hc2 0 _ rfl
    have d1 := hc2 1 _ rfl
    have d2 := hc2 2 _ rfl
    have d3 := hc2 3 _ rfl
    simp only [KPr, Nat.add_zero] at c0 c1 c2 c3 d0 d1 d2 d3
    have hq1 : (xn != xn) = false := by simp
    have hq2 : (xp != xp) = false := by simp
    have hq3 : ((xtn : Int) != xtn) = false := by simp
    have hxtn := hok.ts.le
    have hby1 : Byt wr xsp xsn xsc xs := hok.s
    have hby2 : Byt wr ysp xsn ysc xs := hok2.s
    have HQ := hidden (fun a => (requal_any xsp ysp xsn xsc xsn ysc xs xs (wr.drewN a) (hby1.keep (fun _ _ h => h)) (hby2.keep (fun _ _ h => h))).mono (R' := fun e w' => e = .returned (.bool true) ∧ ∃ r, w' = (wr.drewN a).drewN r) (fun e w' ⟨h1, h2⟩ => ⟨by rw [h1]; simp, h2⟩))
    have hcA := hc
    have hcB := hc2
    have HCA := hidden (fun W (hb : Below wr.heap.size wr W) => cell_below hb _ _ (hc 3 _ rfl))
    have HCB := hidden (fun W (hb : Below wr.heap.size wr W) => cell_below hb _ _ (hc2 3 _ rfl))
    have HTA : Hid (RdG KTr DTr wr xtp xtn xtc xts) := hidden hok.ts
    have HTB : Hid (RdG KTr DTr wr ytp xtn ytc xts) := hidden hok2.ts
    simp only [KPr] at HCA HCB
    clear hc hc2 hok hok2 hx hy hcA hcB hby1 hby2
    go_wp2
    go_quiet ((go_at_call 21; (with_reducible exact Calls.quiet_of (HQ.out _))))
    have HBQ := hidden (drew_below (B := wr.heap.size) (w := wr) (w' := wr.drewN nq) ⟨nq, rfl⟩)
    clear c0 c1 c2 c3 d0 d1 d2 d3 hq1 hq2 hq3 HQ
    go_wp2_with fail
    go_loopw [6] (fun i wq => ∃ t : Nat, t ≤ xtn ∧ i = .int .i64 t ∧ Below wr.heap.size wr wq) (fun i _ => xtn - (intOf i).toNat)
    case atStart => exact ⟨0, by omega, rfl, HBQ.out⟩
    case round =>
      obtain ⟨t, ht, rfl, hbq⟩ := hrel
      have e3 := HCA.out _ hbq
      have f3 := HCB.out _ hbq
      have HB2 := hidden hbq
      by_cases htl : ¬ t < xtn
      · obtain rfl : t = xtn := by omega
        clear hbq
        go_wp2
        go_roundw
        case rel => exact ⟨j + 1, by omega, by go_num, HBL.out.trans (HB2.out.mono HBL.out.size)⟩
        case measure => simp [intOf]; omega
      replace htl : t < xtn := by omega
      have htl' : (t : Int) < xtn := by omega
      obtain ⟨ga, rfl, ha, -⟩ := (HTA.out.below hbq).cell t (by rw [HTA.out.len]; exact htl)
      obtain ⟨gb, rfl, hb, -⟩ := (HTB.out.below hbq).cell t (by rw [HTB.out.len]; exact htl)
      obtain ⟨z, hz⟩ : ∃ z, xts[t]'(by rw [HTA.out.len]; exact htl) = z := ⟨_, rfl⟩
      rw [hz] at ha hb
      obtain ⟨zt, zi, zk⟩ := z
      have a0 := ha 0 _ rfl
      have a1 := ha 1 _ rfl
      have a2 := ha 2 _ rfl
      have b0 := hb 0 _ rfl
      have b1 := hb 1 _ rfl
      have b2 := hb 2 _ rfl
      simp only [KTr, Nat.add_zero] at a0 a1 a2 b0 b1 b2
      have hqe := fun w => eql_trN w zt zi zk
      clear ha hb hz hbq
      go_wp2_with fail
      go_region
      all_goals
        go_wp2
        go_roundw
        case rel => exact ⟨t + 1, by omega, by go_num, HB2.out.trans (drew_below ⟨1, rfl⟩)⟩
        case measure => simp [intOf]; omega
end Go.Proofs.YtpocehpejbnemaaDoor

namespace Go.Proofs.YtpocehpejbnemaaDoor
open Go.RowKit
open Go.Maps (Keyed IsMap)
set_option linter.unusedVariables false
set_option maxRecDepth 100000

theorem Tryd.laidOutM : laidOutB Tryd.prog = true := by kernel_rfl
theorem Tryd.rowTr : (113 : TypeId) < Tryd.prog.types.size := of_decide_eq_true (by kernel_rfl)
theorem Tryd.wideTr : (match Tryd.prog.underlying 113 with | some (.array _ _) | some (.struct _) => true | _ => false) = true := by rw [Tryd.underlying113]
theorem lawTr : Keyed Tryd.prog 113 := Keyed.of_law (deep_law_laid Tryd.laidOutM (m := 2) (by omega) Tryd.rowTr (by kernel_rfl) Tryd.wideTr)
theorem Tryd.keyTypeTr : Tryd.prog.keyType 113 = true := by kernel_rfl
theorem Tryd.cellsTr : Tryd.prog.cellsOf 113 = 3 := by kernel_rfl
theorem Tryd.cellsInt : Tryd.prog.cellsOf 3 = 1 := by kernel_rfl
/-- A transform as a key. -/
def keyVal (t i k : Int) : Value := .agg #[.int .i64 t, .int .i64 i, .int .i64 k]
theorem wf_of {a : Int} (h : -9223372036854775808 ≤ a ∧ a ≤ 9223372036854775807) : (Lit.int .i64 a).wf = true := WalkArith.wf_i64 (by omega)
theorem keyOf_three {P : Program} {k e : TypeId} {fs : Array Go.Field} {f0 f1 f2 : Go.Field} (hk : P.underlying k = some (.struct fs)) (he : P.underlying e = some (.int .i64)) (hkt : P.keyType k = true) (hck : P.cellsOf k = 3) (hce : P.cellsOf e = 1) (hrow : k < P.types.size)
    (hall : fs.all (·.name != "_") = true) (hfs : fs.toList = [f0, f1, f2]) (t0 : f0.type = e) (t1 : f1.type = e) (t2 : f2.type = e) (o0 : f0.offset = 0) (o1 : f1.offset = 1) (o2 : f2.offset = 2)
    {a b c : Int} (ha : (Lit.int .i64 a).wf = true) (hb : (Lit.int .i64 b).wf = true) (hc : (Lit.int .i64 c).wf = true) : ∃ l, keyOf P k (.agg #[.int .i64 a, .int .i64 b, .int .i64 c]) = some l := by
  obtain ⟨m, hm⟩ : ∃ m, P.types.size = m + 1 := Nat.exists_eq_add_one_of_ne_zero (fun e => by rw [e] at hrow; exact Nat.not_lt_zero _ hrow)
  unfold keyOf
  rw [hk]
  simp [hkt, Value.formed, hk, hck, Program.keyLits, Value.cells, hm, he, hce, ha, hb, hc, hall, hfs, t0, t1, t2, o0, o1, o2]
theorem key_tr (t i k : Int) (h : IntT ⟨t, i, k⟩) : ∃ l, keyOf Tryd.prog 113 (keyVal t i k) = some l :=
  keyOf_three Tryd.underlying113 Tryd.underlying3 Tryd.keyTypeTr Tryd.cellsTr Tryd.cellsInt Tryd.rowTr (by simp) rfl rfl rfl rfl rfl rfl rfl (wf_of h.1) (wf_of h.2.1) (wf_of h.2.2)

/-- What the map reads as, and the transforms that it holds. -/
structure SeenD (D : DataW Unit) (ts : List Tr) : Prop where
  map : IsMap D
  at_ : ∀ (t i k : Int) (l : Lit), keyOf Tryd.prog 113 (keyVal t i k) = some l → D.atKey l (.lit (.bool false)) = .lit (.bool (decide ((⟨t, i, k⟩ : Tr) ∈ ts)))
def Seen (w : World) (b : Nat) (ts : List Tr) : Prop := ∃ D : DataW Unit, w.ownsMap Tryd.prog 113 (plainElem Tryd.prog 4) b ts.length D ∧ SeenD D ts
theorem Seen.made (w : World) : Seen (w.alloc (.map #[] 0)) w.heap.size [] := ⟨_, World.ownsMap_made _ _ _ _, ⟨[], rfl⟩, fun t i k l h => by simp [DataW.atKey]⟩
theorem Seen.lt {w : World} {b : Nat} {ts : List Tr} (h : Seen w b ts) : b < w.heap.size := by
  obtain ⟨D, h1, _⟩ := h
  exact h1.lt
theorem Seen.grown {w w' : World} {b : Nat} {ts : List Tr} {row : Option Nat} (h : Seen w b ts) (hg : w.grownBy w' row) (hne : some b ≠ row) : Seen w' b ts := by
  obtain ⟨D, h1, h2⟩ := h
  exact ⟨D, h1.kept hg hne, h2⟩
theorem Seen.notCells {w : World} {b : Nat} {ts : List Tr} (h : Seen w b ts) (cur : Array Value) (e : TypeId) (fz : Nat × Nat) : w.heap[b]? ≠ some (.cells cur e fz) := by
  obtain ⟨D, ⟨es, clock, h1, _⟩, _⟩ := h
  rw [h1]
  simp
theorem Tryd.zeroBool (w : World) : (zeroValue 4).run Tryd.prog w = .ok (.bool false) w := by kernel_rfl
theorem Seen.look {w : World} {b : Nat} {ts : List Tr} (h : Seen w b ts) (t i k : Int) (hi : IntT ⟨t, i, k⟩) (c : Bool) (hc : c = decide ((⟨t, i, k⟩ : Tr) ∈ ts)) :
    (Instr.lookup 134 (.map (some b)) (.agg #[.int .i64 t, .int .i64 i, .int .i64 k]) false).run Tryd.prog w = .ok (.bool c) w := by
  obtain ⟨D, h1, h2⟩ := h
  obtain ⟨l, hl⟩ := key_tr t i k hi
  obtain ⟨v, ps, hrun, hv⟩ := h1.lookup lawTr Tryd.underlying134 (Tryd.zeroBool w) (plainElem_bool Tryd.underlying4 false) hl
  rw [h2.at_ t i k l hl] at hv
  have : v = .bool c := by
    unfold plainElem at hv
    rw [Tryd.underlying4] at hv
    cases v <;> simp at hv
    rw [hv.1, hc]
  rw [← this]
  exact hrun
theorem SeenD.put {D : DataW Unit} {ts : List Tr} (h : SeenD D ts) (t i k : Int) (l : Lit) (hl : keyOf Tryd.prog 113 (keyVal t i k) = some l) : SeenD (D.put l (.lit (.bool true))) (ts ++ [⟨t, i, k⟩]) := by
  refine ⟨h.map.put _ _, fun t' i' k' l' hl' => ?_⟩
  by_cases he : l' = l
  · subst he
    rw [Maps.atKey_put_same h.map (lawTr.key hl)]
    have := lawTr.inj hl hl'
    simp [keyVal] at this
    obtain ⟨rfl, rfl, rfl⟩ := this
    simp
  · rw [Maps.atKey_put_other he, h.at_ t' i' k' l' hl']
    have hne : (⟨t', i', k'⟩ : Tr) ≠ ⟨t, i, k⟩ := by
      intro e
      simp at e
      obtain ⟨rfl, rfl, rfl⟩ := e
      rw [hl] at hl'
      simp at hl'
      exact he hl'.symm
    simp [hne]
/-- A store into the map as a law of the walk. -/
theorem wpList_seen (w : World) {ops : Array Oper} {rest : List Oper} {o : Oper} {a : Act} {Q : Exit → Act → World → Prop} (hg : o.guard = none) (m x v : Operand) (hop : o.op = Op.mapUpdate 134 m x v)
    (b : Nat) (ts : List Tr) (h : Seen w b ts) (hn : ts.length < maxLen) (hm : a.eval m = .map (some b)) (t i k : Int) (hx : a.eval x = .agg #[.int .i64 t, .int .i64 i, .int .i64 k]) (hv : a.eval v = .bool true) (hi : IntT ⟨t, i, k⟩)
    (hK : ∀ w', Seen w' b (ts ++ [⟨t, i, k⟩]) → w.grownBy w' (some b) → wpList Tryd.prog ops Q rest (a.put o.dst undef) w') : wpList Tryd.prog ops Q (o :: rest) a w := by
  obtain ⟨D, h1, h2⟩ := h
  obtain ⟨l, hl⟩ := key_tr t i k hi
  refine wpList_mapUpdate_own w hg m x v _ hop _ _ lawTr Tryd.underlying134 _ b _ D hm h1 hn _ _ l hx hv hl _ [] (plainElem_bool Tryd.underlying4 true) ?_
  intro w' h3 h4
  exact hK w' ⟨_, by simpa using h3, h2.put t i k l hl⟩ h4
end Go.Proofs.YtpocehpejbnemaaDoor
