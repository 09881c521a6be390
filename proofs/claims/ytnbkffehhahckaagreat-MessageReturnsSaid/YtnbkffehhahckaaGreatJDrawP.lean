/-
  The proposals that a list of choices makes: they may be written, where their protocol is one.
-/
import Derived.Test.YtnbkffehhahckaaGreatJZ8
namespace Go.Proofs.YtnbkffehhahckaaGreat
open Go.RowKit
set_option linter.unusedVariables false
structure DrawnT (ts : List Tr) : Prop where
  some_ : 1 ≤ ts.length
  few : ts.length ≤ 6
  ok : ∀ x ∈ ts, OkT x
  nodup : ts.Nodup
structure DrawnP (pr n : Int) (x : PrP) : Prop where
  n : x.n = n
  p : x.p = pr
  s : x.s.length = if pr = 1 then 0 else 4
  ts : DrawnT x.ts
def DrawnL (pr : Int) (ls : List PrP) : Prop := ∀ j (h : j < ls.length), DrawnP pr ((j : Int) + 1) ls[j]
theorem DrawnL.nil (pr : Int) : DrawnL pr [] := fun j h => by simp at h
theorem DrawnL.snoc {pr : Int} {ls : List PrP} (h : DrawnL pr ls) {x : PrP} (hx : DrawnP pr ((ls.length : Int) + 1) x) : DrawnL pr (ls ++ [x]) := fun j hj => by
  by_cases hl : j < ls.length
  · rw [List.getElem_append_left hl]
    exact h j hl
  · have : j = ls.length := by simp at hj; omega
    subst this
    simp
    exact hx
structure IS (W wr wq : World) (k Bm : Nat) (n pr : Int) (sp : Option Addr) (sn sc : Nat) (s : List Int) (tp : Option Addr) (tc : Nat) (tm ts : List Tr) : Prop where
  cod : Cod W wq k
  gr : wr.grownBy wq (some k)
  kl : k < wr.heap.size
  lm : wr.heap.size < Bm
  lw : Bm < wq.heap.size
  pin : PrIn wq wr.heap.size n pr (.slice sp sn sc) (.slice tp ts.length tc)
  bod : Bod wq (wr.heap.size + 1) sp sn sc s
  seen : Seen wq Bm tm
  row : RowG KTr NTr wq (Bm + 1) (.slice tp ts.length tc) ts
section
variable {W wr wq w2 : World} {k Bm : Nat} {n pr : Int} {sp : Option Addr} {sn sc : Nat} {s : List Int} {tp : Option Addr} {tc : Nat} {tm ts : List Tr}
theorem IS.next (h : IS W wr wq k Bm n pr sp sn sc s tp tc tm ts) (hc : Cod W w2 k) (hg : wq.grownBy w2 (some k)) : IS W wr w2 k Bm n pr sp sn sc s tp tc tm ts := by
  have h1 := h.kl
  have h2 := h.lm
  exact ⟨hc, grown_trans h.gr hg, h.kl, h.lm, Nat.lt_of_lt_of_le h.lw hg.size, h.pin.grown hg (by simp; omega), h.bod.grown hg (OffB.low (by omega)), h.seen.grown hg (by simp; omega), h.row.low hg (by omega)⟩
theorem IS.below (h : IS W wr wq k Bm n pr sp sn sc s tp tc tm ts) (hb : Below wq.heap.size wq w2) : IS W wr w2 k Bm n pr sp sn sc s tp tc tm ts := h.next (h.cod.below hb) (grown_of_below hb _)
theorem IS.map (h : IS W wr wq k Bm n pr sp sn sc s tp tc tm ts) (hg : wq.grownBy w2 (some Bm)) (tm' : List Tr) (hs : Seen w2 Bm tm') : IS W wr w2 k Bm n pr sp sn sc s tp tc tm' ts := by
  have h1 := h.kl
  have h2 := h.lm
  have h3 := h.cod.base
  exact ⟨h.cod.grown hg (by simp; omega) (fun j hj => by cases hj; omega), grown_own h.gr hg (fun j hj => by cases hj; omega), h.kl, h.lm, Nat.lt_of_lt_of_le h.lw hg.size, h.pin.grown hg (by simp; omega), h.bod.grown hg (fun r hr => by cases hr; exact Or.inr (fun cur fz => h.seen.notCells _ _ _)), hs, h.row.low hg (by omega)⟩
theorem IS.store (hc : Cod W w2 k) (hg : wr.grownBy w2 (some k)) (hk : k < wr.heap.size) (hl : wr.heap.size < Bm) (hw : Bm < w2.heap.size) (hp : PrIn w2 wr.heap.size n pr (.slice sp sn sc) (.slice tp ts.length tc)) (hb : Bod w2 (wr.heap.size + 1) sp sn sc s) (hs : Seen w2 Bm tm) (tp' : Option Addr) (tc' : Nat) (ts' : List Tr) (hr : RowG KTr NTr w2 (Bm + 1) (.slice tp' ts'.length tc') ts') : IS W wr (w2.setCell ⟨wr.heap.size, 3, none⟩ (.slice tp' ts'.length tc')) k Bm n pr sp sn sc s tp' tc' tm ts' := by
  have h3 := hc.base
  have hgs := grown_set w2 wr.heap.size 3 (.slice tp' ts'.length tc')
  exact ⟨hc.set _ _ _ (by omega) (by omega), grown_own hg hgs (fun j hj => by cases hj; omega), hk, hl, Nat.lt_of_lt_of_le hw hgs.size, hp.set3 _ _ _, hb.grown hgs (OffB.low (by omega)), hs.grown hgs (by simp; omega), hr.low hgs (by omega)⟩
theorem IS.newset (h : IS W wr wq k Bm n pr sp sn sc s tp tc tm ts) (g j : Nat) (v : Value) {t i kk : Int} (ht : TrIn wq g t i kk) (hg : Bm < g) (hne : (Value.slice tp ts.length tc).ownBlock ≠ some g) (hb : ∀ cur fz, wq.heap[g]? ≠ some (.cells cur 5 fz)) : IS W wr (wq.setCell ⟨g, j, none⟩ v) k Bm n pr sp sn sc s tp tc tm ts := by
  have h1 := h.kl
  have h2 := h.lm
  have h3 := h.cod.base
  have hgs := grown_set wq g j v
  exact ⟨h.cod.set _ _ _ (by omega) (by omega), grown_own h.gr hgs (fun i hi => by cases hi; omega), h.kl, h.lm, Nat.lt_of_lt_of_le h.lw hgs.size, h.pin.grown hgs (by simp; omega), h.bod.grown hgs (fun r hr => by cases hr; exact Or.inr hb), h.seen.grown hgs (by simp; omega), h.row.grown hgs (fun r hr e => by cases hr; exact hne e) (fun r hr => Or.inr (fun cur e fz _ hm => by simp [NTr] at hm))⟩
theorem IS.rowed (h : IS W wr wq k Bm n pr sp sn sc s tp tc tm ts) (hg : wq.grownBy w2 (Value.slice tp ts.length tc).ownBlock) : Cod W w2 k ∧ wr.grownBy w2 (some k) ∧ Bm < w2.heap.size ∧ PrIn w2 wr.heap.size n pr (.slice sp sn sc) (.slice tp ts.length tc) ∧ Bod w2 (wr.heap.size + 1) sp sn sc s ∧ Seen w2 Bm tm := by
  have h1 := h.kl
  have h2 := h.lm
  have h3 := h.cod.base
  have hl : ∀ j, (Value.slice tp ts.length tc).ownBlock = some j → Bm + 1 ≤ j := fun j hj => (h.row.lt j hj).1
  have hne : ∀ b, b ≤ Bm → some b ≠ (Value.slice tp ts.length tc).ownBlock := fun b hb e => by have := hl b e.symm; omega
  refine ⟨h.cod.grown hg (hne k (by omega)) (fun j hj => by have := hl j hj; omega), grown_own h.gr hg (fun j hj => by have := hl j hj; omega), Nat.lt_of_lt_of_le h.lw hg.size, h.pin.grown hg (hne _ (by omega)), h.bod.grown hg (fun r hr => ?_), h.seen.grown hg (hne _ (Nat.le_refl _))⟩
  rcases h.row.offT (ts := [5]) (base' := wr.heap.size + 1) (by simp [KTr]) r hr with h4 | h4
  · exact Or.inl h4
  · exact Or.inr (fun cur fz e => h4 _ _ _ e (by simp))
end
set_option maxHeartbeats 6400000 in
set_option maxRecDepth 100000 in
theorem drawP_any (W w : World) (k : Nat) (h : Cod W w k) (most : Nat) (hm1 : 1 ≤ most) (hm2 : most ≤ 100) (pr : Int) (hpr : -9223372036854775808 ≤ pr ∧ pr ≤ 9223372036854775807) :
    Calls Tryz.prog 27 #[.pointer (some ⟨k, 0, none⟩), .int .i64 most, .int .i64 pr] w fun e w' => ∃ (v : Value) (ls : List PrP), e = .returned v ∧ 1 ≤ ls.length ∧ ls.length ≤ most ∧ DrawnL pr ls ∧ RowG KPr NPr w' w.heap.size v ls ∧ Cod W w' k ∧ w.grownBy w' (some k) := by
  have hmm := @run_makeMap Tryz.prog
  have hk := h.lt
  have H := hidden h
  clear h
  go_enter Tryz.func27, Tryz.ntmps27
  go_wp2_with fail
  go_at_call 13
  (with_reducible refine (next_any W _ k H.out most (by omega)).mono ?_)
  rintro e w1 ⟨r, rfl, r0, r1, hc, hg⟩
  obtain ⟨r, rfl⟩ := Int.eq_ofNat_of_zero_le r0
  have HC := hidden hc
  have HG := hidden hg
  clear hc hg H
  go_wp2_with fail
  go_loopw [7, 8] (fun u i wr => ∃ (c : Nat) (ls : List PrP), i = .int .i64 c ∧ ls.length + c = r + 1 ∧ DrawnL pr ls ∧ RowG KPr NPr wr w.heap.size u ls ∧ Cod W wr k ∧ w.grownBy wr (some k)) (fun _ i _ => (intOf i).toNat)
  case atStart => exact ⟨r + 1, [], by go_num, by simp, DrawnL.nil _, RowG.nil _ _ _ _, HC.out, HG.out⟩
  case round =>
    rename World => wo
    obtain ⟨c, ls, rfl, hlc, hdr, hrow, hcod, hgr⟩ := hrel
    obtain ⟨po, co, rfl⟩ := hrow.form rfl
    have HRW := hidden hrow
    have HCD := hidden hcod
    have HGR := hidden hgr
    have HDR := hidden hdr
    clear hrow hcod hgr hdr
    by_cases hz : c = 0
    · subst hz
      clear HC HG
      go_wp2_with fail
      go_ret
      exact ⟨_, ls, rfl, by omega, by omega, HDR.out, HRW.out, HCD.out, HGR.out⟩
    have hc0 : (0 : Int) < c := by omega
    have hll : ls.length ≤ 100 := by omega
    have hkr : k < wo.heap.size := HCD.out.lt
    have hal : Below wo.heap.size wo (wo.alloc (.cells #[.int .i64 ((ls.length : Int) + 1), .int .i64 pr, .slice none 0 0, .slice none 0 0] 106)) := (Below.refl _ _).alloc (Nat.le_refl _) _
    have HPI := hidden (PrIn.new wo ((ls.length : Int) + 1) pr none 0 0 none 0 0 106)
    have HCA := hidden (HCD.out.below hal)
    have HGA := hidden (grown_of_below hal (some k))
    have hsA : (wo.alloc (.cells #[.int .i64 ((ls.length : Int) + 1), .int .i64 pr, .slice none 0 0, .slice none 0 0] 106)).heap.size = wo.heap.size + 1 := by simp
    have HSA := hidden hsA
    clear hal hsA
    rcases Classical.em (pr = 1) with hp1 | hp1
    case' inl =>
      have hp2 : (pr != 1) = false := by simpa using hp1
      have HP1 := hidden hp1
      clear hp1
      go_wp2_with fail
      have hmp := Seen.made (wo.alloc (.cells #[.int .i64 ((ls.length : Int) + 1), .int .i64 pr, .slice none 0 0, .slice none 0 0] 106))
      have hb2 : Below (wo.alloc (.cells #[.int .i64 ((ls.length : Int) + 1), .int .i64 pr, .slice none 0 0, .slice none 0 0] 106)).heap.size (wo.alloc (.cells #[.int .i64 ((ls.length : Int) + 1), .int .i64 pr, .slice none 0 0, .slice none 0 0] 106)) ((wo.alloc (.cells #[.int .i64 ((ls.length : Int) + 1), .int .i64 pr, .slice none 0 0, .slice none 0 0] 106)).alloc (.map #[] 0)) := (Below.refl _ _).alloc (Nat.le_refl _) _
      rw [HSA.out] at hmp
      obtain ⟨Bm, hBm⟩ : ∃ Bm, wo.heap.size + 1 = Bm := ⟨_, rfl⟩
      have HIS : Hid (IS W wo ((wo.alloc (.cells #[.int .i64 ((ls.length : Int) + 1), .int .i64 pr, .slice none 0 0, .slice none 0 0] 106)).alloc (.map #[] 0)) k Bm ((ls.length : Int) + 1) pr none 0 0 [] none 0 [] []) :=
        hidden ⟨HCA.out.below hb2, grown_trans HGA.out (grown_of_below hb2 _), hkr, by omega, by subst hBm; simp, HPI.out.below hb2, Bod.nil _ _ _ _ (Nat.zero_le _), by rw [← hBm]; exact hmp, RowG.nil _ _ _ _⟩
      obtain ⟨WS, hWS⟩ : ∃ WS, ((wo.alloc (.cells #[.int .i64 ((ls.length : Int) + 1), .int .i64 pr, .slice none 0 0, .slice none 0 0] 106)).alloc (.map #[] 0)) = WS := ⟨_, rfl⟩
      rw [hBm, hWS]
      rw [hWS] at HIS
      obtain ⟨sp, sn, sc, s, hs4, HIS2⟩ : ∃ sp sn sc s, s.length = (if pr = 1 then 0 else 4) ∧ Hid (IS W wo WS k Bm ((ls.length : Int) + 1) pr sp sn sc s none 0 [] []) := ⟨none, 0, 0, [], by rw [HP1.out]; rfl, HIS⟩
      clear HIS hWS hBm hmp hb2 HP1 hp2
    case' inr =>
      have hp2 : (pr != 1) = true := by simpa using hp1
      have HP1 := hidden hp1
      clear hp1
      go_wp2_with fail
      go_at_call 29
      (refine (mbytes_any W _ k HCA.out 4 (by omega)).mono ?_)
      rintro e w2 ⟨p4, c4, s4, rfl, hbod4, hcod4, hg4⟩
      have hpi4 := HPI.out.grown hg4 (by simp; omega)
      have c2 := hpi4.c2
      have fr := hpi4.fr
      have HBD4 := hidden hbod4
      have HCD4 := hidden hcod4
      have HGR4 := hidden (grown_trans HGA.out hg4)
      have HPI4 := hidden (hpi4.set2 p4 4 c4)
      have hs4z : wo.heap.size + 1 ≤ w2.heap.size := by have := hg4.size; have := HSA.out; omega
      clear hpi4 hbod4 hcod4 hg4
      go_wp2_with fail
      have hmp := Seen.made (w2.setCell ⟨wo.heap.size, 2, none⟩ (.slice p4 4 c4))
      have hgs := grown_set w2 wo.heap.size 2 (.slice p4 4 c4)
      have hss : (w2.setCell ⟨wo.heap.size, 2, none⟩ (.slice p4 4 c4)).heap.size = w2.heap.size := by simp [World.setCell]
      have hcw := HCD4.out.set wo.heap.size 2 (.slice p4 4 c4) (by have := HCD.out.base; omega) (by omega)
      have hbw := HBD4.out.mono (show wo.heap.size + 1 ≤ (wo.alloc (.cells #[.int .i64 ((ls.length : Int) + 1), .int .i64 pr, .slice none 0 0, .slice none 0 0] 106)).heap.size by rw [HSA.out]; exact Nat.le_refl _)
      have hb2 : Below (w2.setCell ⟨wo.heap.size, 2, none⟩ (.slice p4 4 c4)).heap.size (w2.setCell ⟨wo.heap.size, 2, none⟩ (.slice p4 4 c4)) ((w2.setCell ⟨wo.heap.size, 2, none⟩ (.slice p4 4 c4)).alloc (.map #[] 0)) := (Below.refl _ _).alloc (Nat.le_refl _) _
      rw [hss] at hmp
      obtain ⟨Bm, hBm⟩ : ∃ Bm, w2.heap.size = Bm := ⟨_, rfl⟩
      have HIS : Hid (IS W wo ((w2.setCell ⟨wo.heap.size, 2, none⟩ (.slice p4 4 c4)).alloc (.map #[] 0)) k Bm ((ls.length : Int) + 1) pr p4 4 c4 s4 none 0 [] []) :=
        hidden ⟨hcw.below hb2, grown_trans (grown_own HGR4.out hgs (fun j hj => by cases hj; omega)) (grown_of_below hb2 _), hkr, by omega, by subst hBm; simp [World.setCell], HPI4.out.below hb2, (hbw.grown hgs (OffB.low (by omega))).below hb2, by rw [← hBm]; exact hmp, RowG.nil _ _ _ _⟩
      obtain ⟨WS, hWS⟩ : ∃ WS, ((w2.setCell ⟨wo.heap.size, 2, none⟩ (.slice p4 4 c4)).alloc (.map #[] 0)) = WS := ⟨_, rfl⟩
      rw [hWS]
      rw [hWS] at HIS
      try rw [hBm]
      obtain ⟨sp, sn, sc, s, hs4, HIS2⟩ : ∃ sp sn sc s, s.length = (if pr = 1 then 0 else 4) ∧ Hid (IS W wo WS k Bm ((ls.length : Int) + 1) pr sp sn sc s none 0 [] []) := ⟨p4, 4, c4, s4, by rw [if_neg HP1.out]; exact HBD4.out.byt.len, HIS⟩
      clear HIS hWS hBm hmp hb2 HP1 hp2 hbw hcw hss hgs c2 fr HPI4 HGR4 HCD4 HBD4 hs4z
    all_goals
      go_at_call 13
      (with_reducible refine (next_any W _ k HIS2.out.cod 6 (by omega)).mono ?_)
      rintro e w5 ⟨r5, rfl, g0, g1, hc5, hg5⟩
      obtain ⟨r5, rfl⟩ := Int.eq_ofNat_of_zero_le g0
      have HI5 := hidden (HIS2.out.next hc5 hg5)
      have HS4 := hidden hs4
      clear hc5 hg5 HIS2 HC HG hs4 HPI HCA HGA HSA
      go_wp2_with fail
      go_loopw [11] (fun m wq => ∃ (d : Nat) (tp : Option Addr) (tc : Nat) (ts : List Tr), m = .int .i64 d ∧ ts.length + d ≤ 6 ∧ (ts.length = 0 → 1 ≤ d) ∧ (∀ x ∈ ts, OkT x) ∧ ts.Nodup ∧ IS W wo wq k Bm ((ls.length : Int) + 1) pr sp sn sc s tp tc ts ts) (fun m _ => (intOf m).toNat)
      case atStart => exact ⟨r5 + 1, none, 0, [], by go_num, by simp; omega, by omega, by simp, List.nodup_nil, HI5.out⟩
      case round =>
        obtain ⟨d, tp, tc, ts, rfl, hld, hsome, hok, hnd, his⟩ := hrel
        have HI := hidden his
        have HOK := hidden hok
        have HND := hidden hnd
        have HSM := hidden hsome
        clear his hok hnd hsome HI5
        by_cases hd0 : d = 0
        · subst hd0
          have c0 := HI.out.pin.c0
          have c1 := HI.out.pin.c1
          have c2 := HI.out.pin.c2
          have c3 := HI.out.pin.c3
          have HRQ := hidden (HRW.out.low HI.out.gr hk)
          have HGQ := hidden (grown_trans HGR.out HI.out.gr)
          have hln := HI.out.lm
          have hsw := HGR.out.size
          obtain ⟨x, hx⟩ : ∃ x : PrP, (⟨(ls.length : Int) + 1, pr, sp, sn, sc, s, tp, ts.length, tc, ts⟩ : PrP) = x := ⟨_, rfl⟩
          have hokn : OkN wr w.heap.size x := by
            subst hx
            exact ⟨⟨⟨by show -9223372036854775808 ≤ (ls.length : Int) + 1; omega, by show (ls.length : Int) + 1 ≤ 9223372036854775807; omega⟩, hpr⟩, HI.out.bod.mono (by omega), HI.out.row.mono (by omega)⟩
          have hdp : DrawnP pr ((ls.length : Int) + 1) x := by
            subst hx
            exact ⟨rfl, rfl, HS4.out, ⟨by have := HSM.out; show 1 ≤ ts.length; omega, by show ts.length ≤ 6; omega, HOK.out, HND.out⟩⟩
          have HDX := hidden (HDR.out.snoc hdp)
          have hal : Below wr.heap.size wr (wr.alloc (.cells (KPr.cs x).toArray 106)) := (Below.refl _ _).alloc (Nat.le_refl _) _
          have HX := hidden (NPr.keep (base := w.heap.size) (row := none) hokn (grown_of_below hal none) (OffT.none _ _ _))
          have HCQ := hidden HI.out.cod
          have hszq := HGQ.out.size
          have hlnx : ls.length < 100 := by omega
          subst hx
          clear hokn hdp hal HSM HOK HND HI
          go_wp2_with (at_builtin; go_loud (refine wpList_append_g knownPr (by simp [NPr, KPr]) _ rfl _ _ rfl w.heap.size _ ls rfl (HRQ.out.alloc _) _ 1 1 [⟨(ls.length : Int) + 1, pr, sp, sn, sc, s, tp, ts.length, tc, ts⟩] rfl (srcPr wr ⟨(ls.length : Int) + 1, pr, sp, sn, sc, s, tp, ts.length, tc, ts⟩ _) (fun x hx => by rw [List.mem_singleton.1 hx]; exact HX.out) ?b1 ?b2 ?b3 ?_))
          case b1 => unfold maxLen; omega
          case b2 => omega
          case b3 => simp; omega
          intro v6 w6 hrow6 hg6
          have hk6 : ∀ r, (Value.slice po ls.length co).ownBlock = some r → w.heap.size ≤ r := fun r hr => (HRQ.out.lt r hr).1
          have HR6 := hidden hrow6
          have HC6 := hidden ((HCQ.out.alloc (.cells (KPr.cs ⟨(ls.length : Int) + 1, pr, sp, sn, sc, s, tp, ts.length, tc, ts⟩).toArray 106)).grown hg6 (fun e => by have := hk6 k e.symm; omega) (fun j hj => by have := hk6 j hj; have := HCQ.out.base; omega))
          have HG6 := hidden (grown_own (grown_alloc_new HGQ.out _) hg6 hk6)
          clear hrow6 hg6 hk6
          go_wp2_with fail
          go_roundw
          case rel => exact ⟨c - 1, ls ++ [⟨(ls.length : Int) + 1, pr, sp, sn, sc, s, tp, ts.length, tc, ts⟩], by go_num, by simp; omega, HDX.out, HR6.out, HC6.out, HG6.out⟩
          case measure => simp [intOf]; omega
        have hd1 : (0 : Int) < d := by omega
        go_wp2_with fail
        go_at_call 13
        (with_reducible refine (next_any W _ k HI.out.cod 3 (by omega)).mono ?_)
        rintro e w7 ⟨r7, rfl, g2, g3, hc7, hg7⟩
        have hi8 := (HI.out.next hc7 hg7).below ((Below.refl _ _).alloc (Nat.le_refl _) (.cells (([28, 31, 1024, 5] : List Int).map (Value.int .i64)).toArray 3))
        have HI8 : Hid (IS W wo (w7.alloc (.cells #[.int .i64 28, .int .i64 31, .int .i64 1024, .int .i64 5] 3)) k Bm ((ls.length : Int) + 1) pr sp sn sc s tp tc ts ts) := hidden hi8
        have HL := hidden (fun (j : Nat) (hj : j < 4) => ints_at w7 [28, 31, 1024, 5] 3 j hj)
        clear hc7 hg7 hi8 HI
        go_wp2_with fail
        go_at_call 13
        (with_reducible refine (next_any W _ k HI8.out.cod 4 (by omega)).mono ?_)
        rintro e w8 ⟨r8, rfl, g4, g5, hc8, hg8⟩
        obtain ⟨r8, rfl⟩ := Int.eq_ofNat_of_zero_le g4
        have hcell : w8.cell? ⟨w7.heap.size, r8, none⟩ = some (.int .i64 (([28, 31, 1024, 5] : List Int).getD r8 0)) := hg8.cell (HL.out r8 (by omega)) (by have h1 := HI8.out.kl; have h2 := HI8.out.lm; have h3 := HI8.out.lw; simp at h3; simp; omega)
        have hvb : 0 ≤ ([28, 31, 1024, 5] : List Int).getD r8 0 ∧ ([28, 31, 1024, 5] : List Int).getD r8 0 ≤ 65535 := by
          have : r8 = 0 ∨ r8 = 1 ∨ r8 = 2 ∨ r8 = 3 := by omega
          rcases this with rfl | rfl | rfl | rfl <;> simp
        generalize ([28, 31, 1024, 5] : List Int).getD r8 0 = v8 at hcell hvb
        have HI9 := hidden (HI8.out.next hc8 hg8)
        obtain ⟨tt, htt⟩ : ∃ tt, 1 + r7 = tt := ⟨_, rfl⟩
        have htb : 1 ≤ tt ∧ tt ≤ 3 := by omega
        have hwt : IntKind.i64.wrap (1 + r7) = tt := by rw [IntKind.wrap_i64]; omega
        have HIA := hidden (HI9.out.below ((Below.refl _ _).alloc (Nat.le_refl _) (.cells #[.int .i64 tt, .int .i64 v8, .int .i64 0] 109)))
        have HTA := hidden (TrIn.new w8 tt v8 0 109)
        have hk8 : k < w8.heap.size := by have h1 := HI9.out.kl; have h2 := HI9.out.lm; have h3 := HI9.out.lw; omega
        have hb8 : wo.heap.size < w8.heap.size ∧ Bm < w8.heap.size := ⟨by have h2 := HI9.out.lm; have h3 := HI9.out.lw; omega, HI9.out.lw⟩
        have HNB : Hid ((Value.slice tp ts.length tc).ownBlock ≠ some w8.heap.size) := hidden (fun e => by have := (HI9.out.row.lt _ e).2; omega)
        have HBT : Hid ((w8.alloc (.cells #[.int .i64 tt, .int .i64 v8, .int .i64 0] 109)).heap[w8.heap.size]? = some (.cells #[.int .i64 tt, .int .i64 v8, .int .i64 0] 109)) := hidden (MapKept.heap_alloc w8 _).1
        clear hc8 hg8 HL HI8 HI9
        by_cases ht1 : tt = 1
        · have q1 : (tt == 1) = true := by simpa using ht1
          clear ht1
          go_wp2_with fail
          go_at_call 13
          (with_reducible refine (next_any W _ k HIA.out.cod 3 (by omega)).mono ?_)
          rintro e w9 ⟨r9, rfl, g6, g7, hc9, hg9⟩
          have HIB := hidden (HIA.out.next hc9 hg9)
          have HTB := hidden (HTA.out.grown hg9 (by simp; omega))
          have HBT9 := hidden ((hg9.block w8.heap.size (by simp) (by simp; omega)).trans HBT.out)
          clear hc9 hg9 HIA HTA
          have y0 := HTB.out.c0
          have y1 := HTB.out.c1
          have y2 := HTB.out.c2
          have yf := HTB.out.fr
          by_cases h92 : r9 = 2
          · have q2 : (r9 == 2) = true := by simpa using h92
            clear h92
            have HTZ := hidden (HTB.out.set2 256)
            have HIZ : Hid (IS W wo (w9.setCell ⟨w8.heap.size, 2, none⟩ (.int .i64 256)) k Bm ((ls.length : Int) + 1) pr sp sn sc s tp tc ts ts) := hidden (HIB.out.newset w8.heap.size 2 (.int .i64 256) HTB.out hb8.2 HNB.out (fun cur fz e => by rw [HBT9.out] at e; simp at e))
            have hint : IntT ⟨tt, v8, 256⟩ := intT_of (by omega) hvb (by omega)
            have hokt : OkT ⟨tt, v8, 256⟩ := ⟨⟨by show 1 ≤ tt; omega, by show tt ≤ 5; omega⟩, hvb, ⟨by show (0 : Int) ≤ 256; omega, by show (256 : Int) ≤ 65535; omega⟩⟩
            obtain ⟨cb, hcb⟩ : ∃ cb : Bool, cb = decide ((⟨tt, v8, 256⟩ : Tr) ∈ ts) := ⟨_, rfl⟩
            have hlook := HIZ.out.seen.look tt v8 256 hint cb hcb
            have z0 := HTZ.out.c0
            have z1 := HTZ.out.c1
            have z2 := HTZ.out.c2
            have HCB := hidden hcb
            have HOT := hidden hokt
            clear hcb hokt
            cases cb with
            | true =>
              have hmem : (⟨tt, v8, 256⟩ : Tr) ∈ ts := by have := HCB.out; simpa using this.symm
              have hts : ts.length ≠ 0 := fun e => by rw [List.eq_nil_of_length_eq_zero e] at hmem; cases hmem
              clear hmem
              go_wp2_with fail
              go_roundw
              case rel => exact ⟨d - 1, tp, tc, ts, by go_num, by omega, fun e => absurd e hts, HOK.out, HND.out, HIZ.out⟩
              case measure => simp [intOf]; omega
            | false =>
              have hmem : (⟨tt, v8, 256⟩ : Tr) ∉ ts := by have := HCB.out; simpa using this.symm
              have HNM := hidden hmem
              clear hmem
              go_wp2_with (at_mapUpdate; refine wpList_seen _ rfl _ _ _ rfl Bm ts HIZ.out.seen ?m1 rfl tt v8 256 rfl rfl hint ?_)
              case m1 => unfold maxLen; omega
              intro w10 hsn hg10
              have HIX := hidden (HIZ.out.map hg10 _ hsn)
              have htx := HTZ.out.grown hg10 (by simp; omega)
              have HIT := hidden hint
              have z0 := htx.c0
              have z1 := htx.c1
              have z2 := htx.c2
              have c3 := HIX.out.pin.c3
              have fr := HIX.out.pin.fr
              have hlwx := HIX.out.lw
              clear hlook hsn hg10 htx hint
              go_wp2_with (at_builtin; go_loud (refine wpList_append_g knownTr (by simp [NTr]) _ rfl _ _ rfl (Bm + 1) _ ts rfl (HIX.out.row.alloc _) _ 1 1 [⟨tt, v8, 256⟩] rfl (srcTr w10 tt v8 256 _) (fun x hx => by rw [List.mem_singleton.1 hx]; exact HIT.out) ?b1 ?b2 ?b3 ?_))
              case b1 => unfold maxLen; omega
              case b2 => omega
              case b3 => simp; omega
              intro v11 w11 hrow11 hg11
              obtain ⟨tp11, tc11, rfl⟩ := hrow11.form rfl
              obtain ⟨j1, j2, j3, j4, j5, j6⟩ := (HIX.out.below ((Below.refl _ _).alloc (Nat.le_refl _) _)).rowed hg11
              have d3 := j4.c3
              have fr2 := j4.fr
              have HFI := hidden (IS.store j1 j2 HIX.out.kl HIX.out.lm j3 j4 j5 j6 tp11 tc11 _ hrow11)
              clear j1 j2 j3 j4 j5 j6 hg11 hrow11 z0 z1 z2
              go_wp2_with fail
              go_roundw
              case rel =>
                exact ⟨d - 1, tp11, tc11, ts ++ [⟨tt, v8, 256⟩], by go_num, by simp; omega, fun e => by simp at e, fun x hx => by
                  rcases List.mem_append.1 hx with hx | hx
                  · exact HOK.out x hx
                  · rw [List.mem_singleton.1 hx]; exact HOT.out, by
                  rw [List.nodup_append]
                  exact ⟨HND.out, by simp, fun a ha b hb => by rw [List.mem_singleton.1 hb]; intro e; subst e; exact HNM.out ha⟩, by have h := HFI.out; rw [List.length_append, List.length_singleton] at h; exact h⟩
              case measure => simp [intOf]; omega
          · have q2 : (r9 == 2) = false := by simpa using h92
            clear h92
            have HTZ := HTB
            have HIZ := HIB
            have hint : IntT ⟨tt, v8, 0⟩ := intT_of (by omega) hvb (by omega)
            have hokt : OkT ⟨tt, v8, 0⟩ := ⟨⟨by show 1 ≤ tt; omega, by show tt ≤ 5; omega⟩, hvb, ⟨by show (0 : Int) ≤ 0; omega, by show (0 : Int) ≤ 65535; omega⟩⟩
            obtain ⟨cb, hcb⟩ : ∃ cb : Bool, cb = decide ((⟨tt, v8, 0⟩ : Tr) ∈ ts) := ⟨_, rfl⟩
            have hlook := HIZ.out.seen.look tt v8 0 hint cb hcb
            have z0 := HTZ.out.c0
            have z1 := HTZ.out.c1
            have z2 := HTZ.out.c2
            have HCB := hidden hcb
            have HOT := hidden hokt
            clear hcb hokt
            cases cb with
            | true =>
              have hmem : (⟨tt, v8, 0⟩ : Tr) ∈ ts := by have := HCB.out; simpa using this.symm
              have hts : ts.length ≠ 0 := fun e => by rw [List.eq_nil_of_length_eq_zero e] at hmem; cases hmem
              clear hmem
              go_wp2_with fail
              go_roundw
              case rel => exact ⟨d - 1, tp, tc, ts, by go_num, by omega, fun e => absurd e hts, HOK.out, HND.out, HIZ.out⟩
              case measure => simp [intOf]; omega
            | false =>
              have hmem : (⟨tt, v8, 0⟩ : Tr) ∉ ts := by have := HCB.out; simpa using this.symm
              have HNM := hidden hmem
              clear hmem
              go_wp2_with (at_mapUpdate; refine wpList_seen _ rfl _ _ _ rfl Bm ts HIZ.out.seen ?m1 rfl tt v8 0 rfl rfl hint ?_)
              case m1 => unfold maxLen; omega
              intro w10 hsn hg10
              have HIX := hidden (HIZ.out.map hg10 _ hsn)
              have htx := HTZ.out.grown hg10 (by simp; omega)
              have HIT := hidden hint
              have z0 := htx.c0
              have z1 := htx.c1
              have z2 := htx.c2
              have c3 := HIX.out.pin.c3
              have fr := HIX.out.pin.fr
              have hlwx := HIX.out.lw
              clear hlook hsn hg10 htx hint
              go_wp2_with (at_builtin; go_loud (refine wpList_append_g knownTr (by simp [NTr]) _ rfl _ _ rfl (Bm + 1) _ ts rfl (HIX.out.row.alloc _) _ 1 1 [⟨tt, v8, 0⟩] rfl (srcTr w10 tt v8 0 _) (fun x hx => by rw [List.mem_singleton.1 hx]; exact HIT.out) ?b1 ?b2 ?b3 ?_))
              case b1 => unfold maxLen; omega
              case b2 => omega
              case b3 => simp; omega
              intro v11 w11 hrow11 hg11
              obtain ⟨tp11, tc11, rfl⟩ := hrow11.form rfl
              obtain ⟨j1, j2, j3, j4, j5, j6⟩ := (HIX.out.below ((Below.refl _ _).alloc (Nat.le_refl _) _)).rowed hg11
              have d3 := j4.c3
              have fr2 := j4.fr
              have HFI := hidden (IS.store j1 j2 HIX.out.kl HIX.out.lm j3 j4 j5 j6 tp11 tc11 _ hrow11)
              clear j1 j2 j3 j4 j5 j6 hg11 hrow11 z0 z1 z2
              go_wp2_with fail
              go_roundw
              case rel =>
                exact ⟨d - 1, tp11, tc11, ts ++ [⟨tt, v8, 0⟩], by go_num, by simp; omega, fun e => by simp at e, fun x hx => by
                  rcases List.mem_append.1 hx with hx | hx
                  · exact HOK.out x hx
                  · rw [List.mem_singleton.1 hx]; exact HOT.out, by
                  rw [List.nodup_append]
                  exact ⟨HND.out, by simp, fun a ha b hb => by rw [List.mem_singleton.1 hb]; intro e; subst e; exact HNM.out ha⟩, by have h := HFI.out; rw [List.length_append, List.length_singleton] at h; exact h⟩
              case measure => simp [intOf]; omega
        · have q1 : (tt == 1) = false := by simpa using ht1
          clear ht1
          have HTZ := HTA
          have HIZ := HIA
          have hint : IntT ⟨tt, v8, 0⟩ := intT_of (by omega) hvb (by omega)
          have hokt : OkT ⟨tt, v8, 0⟩ := ⟨⟨by show 1 ≤ tt; omega, by show tt ≤ 5; omega⟩, hvb, ⟨by show (0 : Int) ≤ 0; omega, by show (0 : Int) ≤ 65535; omega⟩⟩
          obtain ⟨cb, hcb⟩ : ∃ cb : Bool, cb = decide ((⟨tt, v8, 0⟩ : Tr) ∈ ts) := ⟨_, rfl⟩
          have hlook := HIZ.out.seen.look tt v8 0 hint cb hcb
          have z0 := HTZ.out.c0
          have z1 := HTZ.out.c1
          have z2 := HTZ.out.c2
          have HCB := hidden hcb
          have HOT := hidden hokt
          clear hcb hokt
          cases cb with
          | true =>
            have hmem : (⟨tt, v8, 0⟩ : Tr) ∈ ts := by have := HCB.out; simpa using this.symm
            have hts : ts.length ≠ 0 := fun e => by rw [List.eq_nil_of_length_eq_zero e] at hmem; cases hmem
            clear hmem
            go_wp2_with fail
            go_roundw
            case rel => exact ⟨d - 1, tp, tc, ts, by go_num, by omega, fun e => absurd e hts, HOK.out, HND.out, HIZ.out⟩
            case measure => simp [intOf]; omega
          | false =>
            have hmem : (⟨tt, v8, 0⟩ : Tr) ∉ ts := by have := HCB.out; simpa using this.symm
            have HNM := hidden hmem
            clear hmem
            go_wp2_with (at_mapUpdate; refine wpList_seen _ rfl _ _ _ rfl Bm ts HIZ.out.seen ?m1 rfl tt v8 0 rfl rfl hint ?_)
            case m1 => unfold maxLen; omega
            intro w10 hsn hg10
            have HIX := hidden (HIZ.out.map hg10 _ hsn)
            have htx := HTZ.out.grown hg10 (by simp; omega)
            have HIT := hidden hint
            have z0 := htx.c0
            have z1 := htx.c1
            have z2 := htx.c2
            have c3 := HIX.out.pin.c3
            have fr := HIX.out.pin.fr
            have hlwx := HIX.out.lw
            clear hlook hsn hg10 htx hint
            go_wp2_with (at_builtin; go_loud (refine wpList_append_g knownTr (by simp [NTr]) _ rfl _ _ rfl (Bm + 1) _ ts rfl (HIX.out.row.alloc _) _ 1 1 [⟨tt, v8, 0⟩] rfl (srcTr w10 tt v8 0 _) (fun x hx => by rw [List.mem_singleton.1 hx]; exact HIT.out) ?b1 ?b2 ?b3 ?_))
            case b1 => unfold maxLen; omega
            case b2 => omega
            case b3 => simp; omega
            intro v11 w11 hrow11 hg11
            obtain ⟨tp11, tc11, rfl⟩ := hrow11.form rfl
            obtain ⟨j1, j2, j3, j4, j5, j6⟩ := (HIX.out.below ((Below.refl _ _).alloc (Nat.le_refl _) _)).rowed hg11
            have d3 := j4.c3
            have fr2 := j4.fr
            have HFI := hidden (IS.store j1 j2 HIX.out.kl HIX.out.lm j3 j4 j5 j6 tp11 tc11 _ hrow11)
            clear j1 j2 j3 j4 j5 j6 hg11 hrow11 z0 z1 z2
            go_wp2_with fail
            go_roundw
            case rel =>
              exact ⟨d - 1, tp11, tc11, ts ++ [⟨tt, v8, 0⟩], by go_num, by simp; omega, fun e => by simp at e, fun x hx => by
                rcases List.mem_append.1 hx with hx | hx
                · exact HOK.out x hx
                · rw [List.mem_singleton.1 hx]; exact HOT.out, by
                rw [List.nodup_append]
                exact ⟨HND.out, by simp, fun a ha b hb => by rw [List.mem_singleton.1 hb]; intro e; subst e; exact HNM.out ha⟩, by have h := HFI.out; rw [List.length_append, List.length_singleton] at h; exact h⟩
            case measure => simp [intOf]; omega
end Go.Proofs.YtnbkffehhahckaaGreat
