/-
  Proposals that a list of choices spoils: some proposals whose numbers are ints, in memory of the call's own.
-/
import Derived.Test.YtmjagbghgbemaaaDoorQPropSpoil
import Derived.Deep.RegionLaw
namespace Go.Proofs.YtmjagbghgbemaaaDoor
open Go.RowKit
set_option linter.unusedVariables false

theorem RowG.renest {α : Type} {K : KindR α} {N N' : NestR α} {w : World} {base : Nat} {v : Value} {l : List α} (h : RowG K N w base v l) (hn : ∀ x ∈ l, N'.ok w base x) : RowG K N' w base v l := ⟨h.own, hn⟩

/-- In the midst of spoiling: the choices, the new row, and the one that is spoilt. -/
structure SP (W w wq : World) (k B gr n c : Nat) (ls : List PrP) (i : Nat) (y : PrP) : Prop where
  cod : Cod W wq k
  gr_ : w.grownBy wq (some k)
  kB : k < B
  Bw : B ≤ w.heap.size
  gw : w.heap.size ≤ gr
  row : RowG KPr NPd wq w.heap.size (.slice (some ⟨gr, 0, none⟩) n c) (ls.set i y)
  tr : RowG KTr NTr wq (gr + 1) (.slice y.tp y.tn y.tc) y.ts
  tl : y.ts.length = y.tn
  spi : Bod wq B y.sp y.sn y.sc y.s
section
variable {W w wq w2 : World} {k B gr n c : Nat} {ls : List PrP} {i : Nat} {y : PrP}
theorem SP.next (h : SP W w wq k B gr n c ls i y) (hc : Cod W w2 k) (hg : wq.grownBy w2 (some k)) : SP W w w2 k B gr n c ls i y := by
  have h1 := h.kB
  have h2 := h.Bw
  have h3 := h.gw
  exact ⟨hc, grown_trans h.gr_ hg, h1, h2, h3, h.row.low hg (by omega), h.tr.low hg (by omega), h.tl, h.spi.grown hg (OffB.low h1)⟩
/-- A field of the spoilt one was written. -/
theorem SP.put (h : SP W w wq k B gr n c ls i y) (hn : ls.length = n) (hi : i < ls.length) (f : Nat) (hf : f < 4) (u : Value) (y' : PrP) (hy : KPr.cs y' = (KPr.cs y).set f u) (hint : IntP y') (htr : RowG KTr NTr wq (gr + 1) (.slice y'.tp y'.tn y'.tc) y'.ts) (htl : y'.ts.length = y'.tn) (hsp : Bod wq B y'.sp y'.sn y'.sc y'.s) : SP W w (wq.setCell ⟨gr, i * 4 + f, none⟩ u) k B gr n c ls i y' := by
  have h1 := h.kB
  have h2 := h.Bw
  have h3 := h.gw
  have h4 := h.cod.base
  have hgs := grown_set wq gr (i * 4 + f) u
  have hr := h.row.set i (by simpa using hi) f hf u y' (by simpa using hy) (by simpa using hn) (by simp [NPd]) hint
  rw [List.set_set] at hr
  obtain ⟨g', c', e, _, _, _, _, hc, _⟩ := h.row.at_ (n := n) (by simpa using hn) (by omega)
  simp at e
  obtain ⟨rfl, rfl⟩ := e
  have hgl : gr < wq.heap.size := (h.row.lt gr rfl).2
  refine ⟨h.cod.set _ _ _ (by omega) (by omega), grown_own h.gr_ hgs (fun j hj => by cases hj; exact h3), h1, h2, h3, hr, htr.low hgs (by omega), htl, ?_⟩
  refine hsp.grown hgs (fun r hr => ?_)
  cases hr
  right
  intro cur fz e
  rcases h.row.own.2 with ⟨e2, _⟩ | ⟨g2, cap, cur2, e2, _, hh, _⟩
  · simp at e2
  · simp at e2
    obtain ⟨⟨rfl, _⟩, _⟩ := e2
    rw [hh] at e
    simp [KPr] at e
theorem SP.cells (h : SP W w wq k B gr n c ls i y) (hn : ls.length = n) (hi : i < ls.length) (f : Nat) (u : Value) (hu : (KPr.cs y)[f]? = some u) : wq.cell? ⟨gr, i * 4 + f, none⟩ = some u := by
  obtain ⟨g', c', e, _, _, _, _, hc, _⟩ := h.row.at_ (n := n) (by simpa using hn) (by omega)
  simp at e
  obtain ⟨rfl, rfl⟩ := e
  exact hc _ _ (KPr.row_get (ls.set i y) i (by simpa using hi) f u (by simpa using hu))
theorem SP.fr (h : SP W w wq k B gr n c ls i y) (hn : ls.length = n) (hi : i < ls.length) (j : Nat) : wq.frozen? ⟨gr, j, none⟩ = false := by
  obtain ⟨g', c', e, _, _, _, _, _, hf⟩ := h.row.at_ (n := n) (by simpa using hn) (by omega)
  simp at e
  obtain ⟨rfl, rfl⟩ := e
  exact hf j
/-- Memory was added, or a row of transforms of one's own was written. -/
theorem SP.trs (h : SP W w wq k B gr n c ls i y) {row : Option Nat} (hg : wq.grownBy w2 row) (hr : ∀ r, row = some r → gr < r ∧ ∀ cur fz, wq.heap[r]? ≠ some (.cells cur 5 fz)) (y' : PrP) (hy : y' = y) (htr : RowG KTr NTr w2 (gr + 1) (.slice y.tp y.tn y.tc) y.ts) : SP W w w2 k B gr n c ls i y := by
  have h1 := h.kB
  have h2 := h.Bw
  have h3 := h.gw
  have h4 := h.cod.base
  exact ⟨h.cod.grown hg (fun e => by have := (hr k e.symm).1; omega) (fun j hj => by have := (hr j hj).1; omega), grown_own h.gr_ hg (fun j hj => by have := (hr j hj).1; omega), h1, h2, h3, h.row.grown hg (fun r hr' => by have := (hr r hr').1; simp [Value.ownBlock]; omega) (fun r hr' => Or.inr (fun cur e fz _ hm => by simp [NPd] at hm)), htr, h.tl, h.spi.grown hg (fun r hr' => Or.inr (fun cur fz => (hr r hr').2 cur fz))⟩
theorem SP.first (hc : Cod W wq k) (hg : w.grownBy wq (some k)) (h1 : k < B) (h2 : B ≤ w.heap.size) (h3 : w.heap.size ≤ gr) (hrow : RowG KPr NPd wq w.heap.size (.slice (some ⟨gr, 0, none⟩) n c) ls) (hn : ls.length = n) (hi : i < ls.length) (u : Value) (y' : PrP) (hy : KPr.cs y' = (KPr.cs ls[i]).set 3 u) (hint : IntP y') (htr : RowG KTr NTr wq (gr + 1) (.slice y'.tp y'.tn y'.tc) y'.ts) (htl : y'.ts.length = y'.tn) (hsp : Bod wq B y'.sp y'.sn y'.sc y'.s) : SP W w (wq.setCell ⟨gr, i * 4 + 3, none⟩ u) k B gr n c ls i y' := by
  have h4 := hc.base
  have hgs := grown_set wq gr (i * 4 + 3) u
  have hr := hrow.set i hi 3 (by decide) u y' hy hn (by simp [NPd]) hint
  refine ⟨hc.set _ _ _ (by omega) (by omega), grown_own hg hgs (fun j hj => by cases hj; exact h3), h1, h2, h3, hr, htr.low hgs (by omega), htl, ?_⟩
  refine hsp.grown hgs (fun r hr => ?_)
  cases hr
  right
  intro cur fz e
  rcases hrow.own.2 with ⟨e2, _⟩ | ⟨g2, cap, cur2, e2, _, hh, _⟩
  · simp at e2
  · simp at e2
    obtain ⟨⟨rfl, _⟩, _⟩ := e2
    rw [hh] at e
    simp [KPr] at e
theorem KindR.row_same {α : Type} {K : KindR α} (l : List α) (i : Nat) (y y' : α) (h : K.cs y' = K.cs y) : K.row (l.set i y') = K.row (l.set i y) := by
  unfold KindR.row
  rw [List.flatMap_def, List.flatMap_def, List.map_set, List.map_set, h]
/-- The transforms' row was written, and the place of it. -/
theorem SP.grow (h : SP W w wq k B gr n c ls i y) {row : Option Nat} (hg : wq.grownBy w2 row) (hr : ∀ r, row = some r → gr < r ∧ ∀ cur fz, wq.heap[r]? ≠ some (.cells cur 5 fz)) (hn : ls.length = n) (hi : i < ls.length) (u : Value) (y' : PrP) (hy : KPr.cs y' = (KPr.cs y).set 3 u) (hint : IntP y') (htr : RowG KTr NTr w2 (gr + 1) (.slice y'.tp y'.tn y'.tc) y'.ts) (htl : y'.ts.length = y'.tn) (hs : y'.sp = y.sp ∧ y'.sn = y.sn ∧ y'.sc = y.sc ∧ y'.s = y.s) : SP W w (w2.setCell ⟨gr, i * 4 + 3, none⟩ u) k B gr n c ls i y' := by
  have h1 := h.kB
  have h2 := h.Bw
  have h3 := h.gw
  have h4 := h.cod.base
  have hrow := h.row.grown hg (fun r hr' => by have := (hr r hr').1; simp [Value.ownBlock]; omega) (fun r hr' => Or.inr (fun cur e fz _ hm => by simp [NPd] at hm))
  have hspi := h.spi.grown hg (fun r hr' => Or.inr (fun cur fz => (hr r hr').2 cur fz))
  have h5 := SP.first (ls := ls.set i y) (i := i) (h.cod.grown hg (fun e => by have := (hr k e.symm).1; omega) (fun j hj => by have := (hr j hj).1; omega)) (grown_own h.gr_ hg (fun j hj => by have := (hr j hj).1; omega)) h1 h2 h3 hrow (by simpa using hn) (by simpa using hi) u y' (by simpa using hy) hint htr htl (by rw [hs.1, hs.2.1, hs.2.2.1, hs.2.2.2]; exact hspi)
  refine ⟨h5.cod, h5.gr_, h1, h2, h3, ?_, h5.tr, htl, h5.spi⟩
  have := h5.row
  rw [List.set_set] at this
  exact this
theorem SP.same (h : SP W w wq k B gr n c ls i y) {row : Option Nat} (hg : wq.grownBy w2 row) (hr : ∀ r, row = some r → gr < r ∧ ∀ cur fz, wq.heap[r]? ≠ some (.cells cur 5 fz)) (y' : PrP) (hy : KPr.cs y' = KPr.cs y) (hint : IntP y') (htr : RowG KTr NTr w2 (gr + 1) (.slice y'.tp y'.tn y'.tc) y'.ts) (htl : y'.ts.length = y'.tn) (hs : y'.sp = y.sp ∧ y'.sn = y.sn ∧ y'.sc = y.sc ∧ y'.s = y.s) : SP W w w2 k B gr n c ls i y' := by
  have h1 := h.kB
  have h2 := h.Bw
  have h3 := h.gw
  have h4 := h.cod.base
  have hrow := h.row.grown hg (fun r hr' => by have := (hr r hr').1; simp [Value.ownBlock]; omega) (fun r hr' => Or.inr (fun cur e fz _ hm => by simp [NPd] at hm))
  have hspi := h.spi.grown hg (fun r hr' => Or.inr (fun cur fz => (hr r hr').2 cur fz))
  refine ⟨h.cod.grown hg (fun e => by have := (hr k e.symm).1; omega) (fun j hj => by have := (hr j hj).1; omega), grown_own h.gr_ hg (fun j hj => by have := (hr j hj).1; omega), h1, h2, h3, ⟨?_, fun z hz => ?_⟩, htr, htl, by rw [hs.1, hs.2.1, hs.2.2.1, hs.2.2.2]; exact hspi⟩
  · have := hrow.own
    rw [List.length_set] at this ⊢
    rw [KindR.row_same ls i y y' hy]
    exact this
  · obtain ⟨j, hj, rfl⟩ := List.mem_iff_getElem.1 hz
    rw [List.getElem_set]
    split
    · exact hint
    · rename_i hne
      exact hrow.ok _ (List.mem_iff_getElem.2 ⟨j, by simpa using hj, by rw [List.getElem_set, if_neg hne]⟩)
/-- What the spoilt list is. -/
theorem SP.done (h : SP W w wq k B gr n c ls i y) (hok : ∀ x ∈ ls, OkN w B x) (hint : IntP y) : RowG KPr NPr wq B (.slice (some ⟨gr, 0, none⟩) n c) (ls.set i y) := by
  have h1 := h.kB
  have h2 := h.Bw
  have h3 := h.gw
  refine (h.row.mono h2).renest (fun x hx => ?_)
  rcases List.mem_or_eq_of_mem_set hx with hx | rfl
  · exact NPr.keep (hok x hx) h.gr_ (OffT.low h1)
  · exact ⟨hint, h.spi, h.tr.mono (by omega)⟩
end
/-- The spoilt list. -/
def Spoilt (W w : World) (k B n T : Nat) (e : Ending) (w' : World) : Prop := ∃ (v : Value) (ls' : List PrP), e = .returned v ∧ ls'.length ≤ n ∧ (∀ x ∈ ls', x.ts.length ≤ T + 1) ∧ RowG KPr NPr w' B v ls' ∧ Cod W w' k ∧ w.grownBy w' (some k)

set_option maxHeartbeats 6400000 in
set_option maxRecDepth 100000 in
theorem spoil_any (W w : World) (k : Nat) (h : Cod W w k) (B : Nat) (hB : B ≤ w.heap.size) (hkB : k < B) (p : Option Addr) (n c : Nat) (ls : List PrP) (hrow : RowG KPr NPr w B (.slice p n c) ls) (hn : ls.length = n) (hn8 : n ≤ 100) (T : Nat) (hT : T ≤ 1000) (hts : ∀ x ∈ ls, x.ts.length ≤ T) :
    Calls Tryd.prog 28 #[.pointer (some ⟨k, 0, none⟩), .slice p n c] w (Spoilt W w k B n T) := by
  have H := hidden h
  have hkw := h.lt
  have HRW := hidden hrow
  have HNL := hidden hn
  have HTS := hidden hts
  have HINT := hidden (fun x hx => (hrow.ok x hx).int)
  clear h hrow hts hn
  go_enter Tryd.func28, Tryd.ntmps28
  go_wp2_with (at_builtin; go_loud (refine wpList_append_g knownPr (by simp [NPd]) _ rfl _ _ rfl w.heap.size _ [] rfl (RowG.nil KPr NPd _ _) _ n c ls rfl HRW.out.src HINT.out ?b1 ?b2 (Nat.le_refl _) ?_))
  case b1 => unfold maxLen; simp; omega
  case b2 => simp; omega
  intro v1 w1 hrow1 hg1
  have hb1 : Below w.heap.size w w1 := (Below.refl w.heap.size w).grown hg1 (Nat.le_refl _) (by intro k hk; simp [Value.ownBlock] at hk)
  obtain ⟨p1, c1, rfl⟩ := hrow1.form (n := n) HNL.out
  have HR1 := hidden hrow1
  have HB1 := hidden hb1
  have HC1 := hidden (H.out.below hb1)
  clear hrow1 hg1 hb1
  by_cases hn0 : n = 0
  · subst hn0
    go_wp2_with fail
    go_at_call 25
    (with_reducible refine (next_any W _ k HC1.out 1 (by omega)).mono ?_)
    rintro e w2 ⟨r, rfl, r0, r1, hc2, hg2⟩
    have HC2 := hidden hc2
    have HG2 := hidden (grown_trans (grown_of_below HB1.out (some k)) hg2)
    have HG2k := hidden hg2
    clear hc2 hg2
    go_wp2_with fail
    go_ret
    have hls : ls = [] := List.eq_nil_of_length_eq_zero HNL.out
    exact ⟨_, ls, rfl, by rw [HNL.out]; exact Nat.le_refl _, by rw [hls]; simp, (((HR1.out.below (w' := w1) (Below.refl _ _)).low HG2k.out hkw).mono hB).renest (by rw [hls]; simp), HC2.out, HG2.out⟩
  have hn1 : 1 ≤ n := by omega
  obtain ⟨gr, c1', e1, hnc, _, hgr, hgr2, hcr, hfr⟩ := HR1.out.at_ (n := n) HNL.out (by omega)
  simp at e1
  obtain ⟨rfl, rfl⟩ := e1
  clear hcr hfr
  rcases Classical.em (1 < n) with hn2 | hn2
  case' inl =>
    have hn3 : (1 : Int) < n := by omega
    go_wp2_with fail
    go_at_call 25
    (with_reducible refine (next_any W _ k HC1.out (n : Int) (by omega)).mono ?_)
    rintro e w2 ⟨r, rfl, r0, r1, hc2, hg2⟩
    obtain ⟨i, rfl⟩ := Int.eq_ofNat_of_zero_le r0
    have hin : i < n := by omega
    clear hn2 hn3
  case' inr =>
    have hn3 : ¬ (1 : Int) < n := by omega
    go_wp2_with fail
    go_at_call 25
    (with_reducible refine (next_any W _ k HC1.out 1 (by omega)).mono ?_)
    rintro e w2 ⟨r, rfl, r0, r1, hc2, hg2⟩
    obtain ⟨i, rfl⟩ := Int.eq_ofNat_of_zero_le r0
    have hin : i < n := by omega
    clear hn2 hn3
  all_goals
    have hil : i < ls.length := by rw [HNL.out]; exact hin
    have hini : (i : Int) < n := by omega
    have hrow2 := HR1.out.low hg2 hkw
    have hgw2 := grown_trans (grown_of_below HB1.out (some k)) hg2
    obtain ⟨x, hx⟩ : ∃ x, ls[i] = x := ⟨_, rfl⟩
    have hxm : x ∈ ls := by rw [← hx]; exact List.getElem_mem _
    have hokx : OkN w2 B x := NPr.keep (HRW.out.ok x hxm) hgw2 (OffT.low hkB)
    have htx := HTS.out x hxm
    have hxtl : x.ts.length = x.tn := by
      obtain ⟨_, _, e⟩ := hokx.ts.form rfl
      simp at e
      exact e.2.1.symm
    have c3 : w2.cell? ⟨gr, i * 4 + 3, none⟩ = some (.slice x.tp x.tn x.tc) := by
      obtain ⟨g', c', e, _, _, _, _, hc, _⟩ := hrow2.at_ (n := n) HNL.out (by omega)
      simp at e
      obtain ⟨rfl, rfl⟩ := e
      have := hc _ _ (KPr.row_get ls i hil 3 (.slice x.tp x.tn x.tc) (by rw [hx]; rfl))
      simpa [KPr] using this
    have hnz : ((n : Int) == 0) = false := by simp; omega
    have HR2 := hidden hrow2
    have HG2 := hidden hgw2
    have HC2 := hidden hc2
    have HOX := hidden hokx
    have HX := hidden hx
    have HXT := hidden hxtl
    have hszz := hgw2.size
    have hgg2 := hg2.size
    clear hrow2 hgw2 hc2 hg2 hokx hx
    go_wp2_with (at_builtin; go_loud (refine wpList_append_g knownTr (by simp [NTr]) _ rfl _ _ rfl w2.heap.size _ [] rfl (RowG.nil KTr NTr _ _) _ x.tn x.tc x.ts rfl HOX.out.ts.src HOX.out.ts.ok ?b1 ?b2 (Nat.le_refl _) ?_))
    case b1 => unfold maxLen; simp; omega
    case b2 => simp; omega
    intro v3 w3 htr3 hg3
    have hb3 : Below w2.heap.size w2 w3 := (Below.refl w2.heap.size w2).grown hg3 (Nat.le_refl _) (by intro k hk; simp [Value.ownBlock] at hk)
    obtain ⟨p3, c3', rfl⟩ := htr3.form (n := x.tn) hxtl
    have hsp := SP.first (i := i) (HC2.out.below hb3) (grown_trans HG2.out (grown_of_below hb3 _)) hkB hB hgr (HR2.out.below hb3) HNL.out hil (.slice p3 x.tn c3') { x with tp := p3, tc := c3' } (by rw [HX.out]; rfl) HOX.out.int (htr3.mono (by omega)) hxtl (HOX.out.s.below hb3)
    have hfr3 : ∀ j, w3.frozen? ⟨gr, j, none⟩ = false := by
      obtain ⟨g', c', e, _, _, _, _, _, hf⟩ := (HR2.out.below hb3).at_ (n := n) HNL.out (by omega)
      simp at e
      obtain ⟨rfl, rfl⟩ := e
      exact hf
    have c3 := cell_below hb3 _ _ c3
    have HSP := hidden hsp
    clear hsp htr3 hg3 hb3 HR2 HG2 HC2
    go_wp2_with fail
    go_at_call 25
    (with_reducible refine (next_any W _ k HSP.out.cod 7 (by omega)).mono ?_)
    rintro e w4 ⟨r7, rfl, r70, r71, hc4, hg4⟩
    have HS4 := hidden (HSP.out.next hc4 hg4)
    have hu : r7 = 0 ∨ r7 = 1 ∨ r7 = 2 ∨ r7 = 3 ∨ r7 = 4 ∨ r7 = 5 ∨ r7 = 6 := by omega
    clear hc4 hg4 HSP hfr3 c3
    have hok := HRW.out.ok
    have HOK := hidden hok
    have HIX := hidden HOX.out.int
    clear hok HOX
    have hfin : ∀ (WW : World) (y : PrP), SP W w WW k B gr n c1 ls i y → IntP y → y.ts.length ≤ T + 1 → Spoilt W w k B n T (.returned (.slice (some ⟨gr, 0, none⟩) n c1)) WW := fun WW y hs hi h20 =>
      ⟨_, ls.set i y, rfl, by rw [List.length_set, HNL.out]; exact Nat.le_refl _, fun z hz => by
        rcases List.mem_or_eq_of_mem_set hz with hz | rfl
        · have := HTS.out z hz; omega
        · exact h20, hs.done HOK.out hi, hs.cod, hs.gr_⟩
    have HFIN := hidden hfin
    clear hfin
    have k0 := HS4.out.cells HNL.out hil 0 _ rfl
    have k1 := HS4.out.cells HNL.out hil 1 _ rfl
    have k2 := HS4.out.cells HNL.out hil 2 _ rfl
    have k3 := HS4.out.cells HNL.out hil 3 _ rfl
    have kf := HS4.out.fr HNL.out hil
    simp only [Nat.add_zero] at k0
    rcases hu with rfl | rfl | rfl | rfl | rfl | rfl | rfl
    · go_wp2_with fail
      go_at_call 26
      (with_reducible refine (int_any W _ k HS4.out.cod).mono ?_)
      rintro e w5 ⟨r5, rfl, q0, q1, hc5, hg5⟩
      have HS5 := hidden (HS4.out.next hc5 hg5)
      have j0 := HS5.out.cells HNL.out hil 0 _ rfl
      have jf := HS5.out.fr HNL.out hil
      simp only [Nat.add_zero] at j0
      have HS6 := hidden (HS5.out.put HNL.out hil 0 (by decide) (.int .i64 r5) { { x with tp := p3, tc := c3' } with n := r5 } rfl ⟨⟨q0, q1⟩, HIX.out.2⟩ HS5.out.tr HS5.out.tl HS5.out.spi)
      clear hc5 hg5 k0 k1 k2 k3 kf
      go_wp2_with fail
      go_ret
      exact HFIN.out _ _ HS6.out ⟨⟨q0, q1⟩, HIX.out.2⟩ (by show x.ts.length ≤ T + 1; omega)
    · go_wp2_with fail
      go_at_call 25
      (with_reducible refine (next_any W _ k HS4.out.cod 6 (by omega)).mono ?_)
      rintro e w5 ⟨r5, rfl, q0, q1, hc5, hg5⟩
      have HS5 := hidden (HS4.out.next hc5 hg5)
      have j1 := HS5.out.cells HNL.out hil 1 _ rfl
      have jf := HS5.out.fr HNL.out hil
      have HS6 := hidden (HS5.out.put HNL.out hil 1 (by decide) (.int .i64 r5) { { x with tp := p3, tc := c3' } with p := r5 } rfl ⟨HIX.out.1, by show -9223372036854775808 ≤ r5; omega, by show r5 ≤ 9223372036854775807; omega⟩ HS5.out.tr HS5.out.tl HS5.out.spi)
      clear hc5 hg5 k0 k1 k2 k3 kf
      go_wp2_with fail
      go_ret
      exact HFIN.out _ _ HS6.out ⟨HIX.out.1, by show -9223372036854775808 ≤ r5; omega, by show r5 ≤ 9223372036854775807; omega⟩ (by show x.ts.length ≤ T + 1; omega)
    · go_wp2_with fail
      go_at_call 25
      (with_reducible refine (next_any W _ k HS4.out.cod 10 (by omega)).mono ?_)
      rintro e w5 ⟨r5, rfl, q0, q1, hc5, hg5⟩
      obtain ⟨r5, rfl⟩ := Int.eq_ofNat_of_zero_le q0
      have HS5 := hidden (HS4.out.next hc5 hg5)
      clear hc5 hg5 k0 k1 k2 k3 kf
      go_wp2_with fail
      go_at_call 27
      (with_reducible refine (mbytes_any W _ k HS5.out.cod r5 (by omega)).mono ?_)
      rintro e w6 ⟨p6, c6, s6, rfl, hbod6, hc6, hg6⟩
      have HS6 := hidden (HS5.out.next hc6 hg6)
      have j2 := HS6.out.cells HNL.out hil 2 _ rfl
      have jf := HS6.out.fr HNL.out hil
      have hbb : B ≤ w5.heap.size := Nat.le_trans hB HS5.out.gr_.size
      have HS7 := hidden (HS6.out.put HNL.out hil 2 (by decide) (.slice p6 r5 c6) { { x with tp := p3, tc := c3' } with sp := p6, sn := r5, sc := c6, s := s6 } rfl HIX.out HS6.out.tr HS6.out.tl (hbod6.mono hbb))
      clear hbod6 hc6 hg6
      go_wp2_with fail
      go_ret
      exact HFIN.out _ _ HS7.out HIX.out (by show x.ts.length ≤ T + 1; omega)
    · have HS6 := hidden (HS4.out.put HNL.out hil 3 (by decide) (.slice none 0 0) { { x with tp := p3, tc := c3' } with tp := none, tn := 0, tc := 0, ts := [] } rfl HIX.out (RowG.nil _ _ _ _) rfl HS4.out.spi)
      go_wp2_with fail
      go_ret
      exact HFIN.out _ _ HS6.out HIX.out (by simp)
    · by_cases h0 : x.tn = 0
      · have h0' : ¬ (0 : Nat) < x.tn := by omega
        have h0'' : ¬ (0 : Int) < x.tn := by omega
        go_wp2_with fail
        go_ret
        exact HFIN.out _ _ HS4.out HIX.out (by show x.ts.length ≤ T + 1; omega)
      have hz2 : 0 < x.tn := by omega
      have hz3 : (0 : Int) < x.tn := by omega
      have htr := HS4.out.tr
      simp only at htr
      obtain ⟨gt, ct, et, _, _, hgt, hgt2, hct, hft⟩ := htr.at_ (n := x.tn) HXT.out hz2
      simp at et
      obtain ⟨rfl, rfl⟩ := et
      obtain ⟨z, hz⟩ : ∃ z, x.ts[0]'(by rw [HXT.out]; exact hz2) = z := ⟨_, rfl⟩
      obtain ⟨zt, zi, zk⟩ := z
      have hzi : IntT ⟨zt, zi, zk⟩ := by rw [← hz]; exact htr.ok _ (List.getElem_mem _)
      have z0 : w4.cell? ⟨gt, 0, none⟩ = some (.int .i64 zt) := by have := hct _ _ (KTr.row_get x.ts 0 (by rw [HXT.out]; exact hz2) 0 _ (by rw [hz]; rfl)); simpa [KTr] using this
      have z1 : w4.cell? ⟨gt, 1, none⟩ = some (.int .i64 zi) := by have := hct _ _ (KTr.row_get x.ts 0 (by rw [HXT.out]; exact hz2) 1 _ (by rw [hz]; rfl)); simpa [KTr] using this
      have z2 : w4.cell? ⟨gt, 2, none⟩ = some (.int .i64 zk) := by have := hct _ _ (KTr.row_get x.ts 0 (by rw [HXT.out]; exact hz2) 2 _ (by rw [hz]; rfl)); simpa [KTr] using this
      have hD : Below w4.heap.size w4 w4.drew := drew_below ⟨1, rfl⟩
      have hDa : Below w4.heap.size w4 (w4.drew.alloc (.cells #[.int .i64 zt, .int .i64 zi, .int .i64 zk] 100)) := hD.alloc hD.size _
      have HTD := hidden (htr.below hD)
      have HZI := hidden hzi
      have HK3 := hidden (cell_below hDa _ _ k3)
      have k3a : (w4.alloc (.cells #[.int .i64 zt, .int .i64 zi, .int .i64 zk] 100)).cell? ⟨gr, i * 4 + 3, none⟩ = some (.slice (some ⟨gt, 0, none⟩) x.tn c3') := HK3.out
      have HFR := hidden (fun j => fr_below hDa (HS4.out.row.lt gr rfl).2 kf j)
      have HDA := hidden hDa
      have hnu : ∀ r, (Value.slice (some ⟨gt, 0, none⟩) x.tn c3').ownBlock = some r → gr < r ∧ ∀ cur fz, w4.heap[r]? ≠ some (.cells cur 5 fz) := fun r hr => ⟨by have := (htr.lt r hr).1; omega, fun cur fz e => by
        rcases htr.offT (ts := [5]) (base' := 0) (by simp [KTr]) r hr with h9 | h9
        · omega
        · exact h9 _ _ _ e (by simp)⟩
      have HNU := hidden hnu
      have hne : ∀ (a : Nat), (Value.slice (some ⟨gt, 0, none⟩) x.tn c3').ownBlock = some a → a ≠ gr := fun a ha e => by have := (hnu a ha).1; omega
      have HNE := hidden hne
      have HLN : Hid ((x.ts ++ [(⟨zt, zi, zk⟩ : Tr)]).length = x.tn + 1) := hidden (by rw [List.length_append, HXT.out]; rfl)
      have htx' : x.ts.length ≤ T := htx
      clear htr hct hft hzi hD hDa hnu hne hz
      go_wp2_with fail
      go_region_law (refine step_append_g knownTr (by simp [NTr]) _ (by rfl) _ _ (by rfl) (gr + 1) _ x.ts (by rfl) (HTD.out.alloc _) _ 1 1 [⟨zt, zi, zk⟩] (by rfl) (srcTr w4.drew zt zi zk _) (fun y hy => by rw [List.mem_singleton.1 hy]; exact HZI.out) (by unfold maxLen; omega) (by omega) (by simp; omega) ?_; intro vb wb hrb hgb; obtain ⟨pb, cb, rfl⟩ := hrb.form HLN.out; have kb := hgb.cell HK3.out (fun e => HNE.out _ e.symm rfl); have kbf : ∀ j, wb.frozen? ⟨gr, j, none⟩ = false := fun j => (World.frozen?_of_block (a := ⟨gr, j, none⟩) (hgb.block gr (by have := HS4.out.row.lt gr rfl; simp; omega) (fun e => HNE.out _ e.symm rfl))).trans (HFR.out j))
      all_goals
        have HS5 := hidden (HS4.out.grow (grown_trans (grown_of_below HDA.out _) hgb) HNU.out HNL.out hil (.slice pb (x.tn + 1) cb) { { x with tp := some ⟨gt, 0, none⟩, tc := c3' } with tp := pb, tn := x.tn + 1, tc := cb, ts := x.ts ++ [⟨zt, zi, zk⟩] } rfl HIX.out hrb HLN.out ⟨rfl, rfl, rfl, rfl⟩)
        clear hrb hgb
        go_wp2_with fail
        go_ret
        exact HFIN.out _ _ HS5.out HIX.out (by show (x.ts ++ [_]).length ≤ T + 1; rw [HLN.out]; have := HXT.out; omega)
    · by_cases h0 : x.tn = 0
      · have h0' : ¬ (0 : Nat) < x.tn := by omega
        have h0'' : ¬ (0 : Int) < x.tn := by omega
        go_wp2_with fail
        go_ret
        exact HFIN.out _ _ HS4.out HIX.out (by show x.ts.length ≤ T + 1; omega)
      have hz2 : 0 < x.tn := by omega
      have hz3 : (0 : Int) < x.tn := by omega
      have htr := HS4.out.tr
      simp only at htr
      obtain ⟨gt, ct, et, _, _, hgt, hgt2, hct, hft⟩ := htr.at_ (n := x.tn) HXT.out hz2
      simp at et
      obtain ⟨rfl, rfl⟩ := et
      obtain ⟨z, hz⟩ : ∃ z, x.ts[0]'(by rw [HXT.out]; exact hz2) = z := ⟨_, rfl⟩
      obtain ⟨zt, zi, zk⟩ := z
      have hzi : IntT ⟨zt, zi, zk⟩ := by rw [← hz]; exact htr.ok _ (List.getElem_mem _)
      have z1 : w4.cell? ⟨gt, 1, none⟩ = some (.int .i64 zi) := by have := hct _ _ (KTr.row_get x.ts 0 (by rw [HXT.out]; exact hz2) 1 _ (by rw [hz]; rfl)); simpa [KTr] using this
      have hD : Below w4.heap.size w4 w4.drew := drew_below ⟨1, rfl⟩
      have HSD : Hid (SP W w w4.drew k B gr n c1 ls i { x with tp := some ⟨gt, 0, none⟩, tc := c3' }) := hidden (HS4.out.next (HS4.out.cod.below hD) (grown_of_below hD _))
      have HZI := hidden hzi
      have K3 := hidden k3
      have Z1 := hidden z1
      have HFT := hidden hft
      have hgrb := HS4.out.gw
      have hkB2 := HS4.out.kB
      have hBw2 := HS4.out.Bw
      have HZ := hidden hz
      clear htr hct hft hzi hD hz
      go_wp2_with fail
      go_region_law ((go_simp; go_at_call 26; (with_reducible refine (int_any W _ k HSD.out.cod).mono ?_); rintro e wA ⟨rA, rfl, q0, q1, hcA, hgA⟩; have hkA : wA.cell? ⟨gr, i * 4 + 3, none⟩ = some (.slice (some ⟨gt, 0, none⟩) x.tn c3') := hgA.cell K3.out (by simp; omega); have hzA : wA.cell? ⟨gt, 1, none⟩ = some (.int .i64 zi) := hgA.cell Z1.out (by simp; omega); have hfA : ∀ j, wA.frozen? ⟨gt, j, none⟩ = false := fun j => (World.frozen?_of_block (a := ⟨gt, j, none⟩) (hgA.block gt hgt2 (by simp; omega))).trans (HFT.out j)))
      all_goals
        have hs5 := HSD.out.next hcA hgA
        have htr5 := hs5.tr
        simp only at htr5
        have hset := htr5.set 0 (by rw [HXT.out]; exact hz2) 1 (by decide) (.int .i64 rA) ⟨zt, rA, zk⟩ (by rw [HZ.out]; rfl) HXT.out (by simp [NTr]) ⟨HZI.out.1, ⟨q0, q1⟩, HZI.out.2.2⟩
        have hnu : ∀ r, (some gt) = some r → gr < r ∧ ∀ cur fz, wA.heap[r]? ≠ some (.cells cur 5 fz) := fun r hr => ⟨by cases hr; omega, fun cur fz e => by
          rcases htr5.offT (ts := [5]) (base' := 0) (by simp [KTr]) r (by cases hr; rfl) with h9 | h9
          · omega
          · exact h9 _ _ _ e (by simp)⟩
        have HS6 : Hid (SP W w (wA.setCell ⟨gt, 1, none⟩ (.int .i64 rA)) k B gr n c1 ls i { { x with tp := some ⟨gt, 0, none⟩, tc := c3' } with ts := x.ts.set 0 ⟨zt, rA, zk⟩ }) := hidden (hs5.same (grown_set wA gt 1 (.int .i64 rA)) hnu _ rfl HIX.out (by simpa [KTr] using hset) (by show (x.ts.set 0 _).length = x.tn; rw [List.length_set]; exact HXT.out) ⟨rfl, rfl, rfl, rfl⟩)
        clear hs5 htr5 hset hnu hcA hgA
        go_wp2_with fail
        go_ret
        exact HFIN.out _ _ HS6.out HIX.out (by show (x.ts.set 0 _).length ≤ T + 1; rw [List.length_set]; omega)
    · have HG9 := hidden HS4.out.gr_
      have HC9 := hidden HS4.out.cod
      go_wp2_with fail
      go_ret
      exact ⟨_, [], rfl, by simp, by simp, RowG.nil _ _ _ _, HC9.out, HG9.out⟩
end Go.Proofs.YtmjagbghgbemaaaDoor
