/-
  The law ProposalWrites, walked: it returns true for every input, and only adds memory of its own.
-/
import Derived.Test.YteopllkjdmpacaaSpoil4
import Derived.Test.YteopllkjdmpacaaRBuild4
import Derived.Deep.RegionHeld3
namespace Go.Proofs.Yteopllkjdmpacaa
open Go.RowKit
set_option linter.unusedVariables false

theorem rbuild_b (p : Option Addr) (n c : Nat) (ls : List PrP) (w : World) (h : RdG KPr DPr w p n c ls) (L : List Int) (E : Int) (hE : buildP (ls.map PrP.pr) = (L, E)) :
    Calls Try.prog 9 #[.slice p n c] w (BuiltB w L E) := by
  refine (rbuild_any p n c ls w h L E hE).mono ?_
  rintro e w' ⟨v, rfl, ho, hb⟩
  obtain ⟨q, d, rfl, hy⟩ := ho.bytN rfl rfl (buildP_rng _ h.rng hE)
  exact ⟨q, d, rfl, hy, hb⟩
/-- A list that can be read lies at a place. -/
def LsAt (w : World) (g q : Nat) : Prop := ∃ (p : Option Addr) (n c : Nat) (ls : List PrP), w.cell? ⟨g, q, none⟩ = some (.slice p n c) ∧ RdG KPr DPr w p n c ls
theorem LsAt.below {w w' : World} {g q : Nat} (h : LsAt w g q) (hb : Below w.heap.size w w') : LsAt w' g q := by
  obtain ⟨p, n, c, ls, h1, h2⟩ := h
  exact ⟨p, n, c, ls, cell_below hb _ _ h1, h2.below hb⟩
theorem RowG.rdP {w : World} {B : Nat} {p : Option Addr} {n c : Nat} {ls : List PrP} (h : RowG KPr NPr w B (.slice p n c) ls) : RdG KPr DPr w p n c ls := by
  obtain ⟨p', c', e⟩ := h.form rfl
  simp at e
  obtain ⟨rfl, rfl, rfl⟩ := e
  exact h.rd2 (fun x hx => (h.ok x hx).rd)

theorem SrcG.row {α : Type} {K : KindR α} {w w' : World} {g m : Nat} {r : List α} {k : Nat} (h : SrcG K w (some ⟨g, 0, none⟩) m r) (hg : w.grownBy w' (some k)) (hne : g ≠ k) : SrcG K w' (some ⟨g, 0, none⟩) m r :=
  ⟨h.1, fun h0 => by
    obtain ⟨ad, e, hc⟩ := h.2 h0
    cases e
    exact ⟨_, rfl, fun j u hj => hg.cell (hc j u hj) (by rw [WideShapes.add_plain]; simp; exact hne)⟩⟩
theorem gnk {a b : World} {k : Nat} (h : a.grownBy b none) : a.grownBy b (some k) := ⟨h.os, h.tape, h.output, h.size, fun i hi _ => h.block i hi (by simp)⟩
theorem RowG.none {α : Type} {K : KindR α} {N : NestR α} {w w' : World} {base : Nat} {v : Value} {l : List α} (h : RowG K N w base v l) (hg : w.grownBy w' none) : RowG K N w' base v l := h.grown hg (by intro r hr; cases hr) (OffT.none _ _ _)
theorem lists7 (U : World) (T : TypeId) {p0 p1 p2 p3 p4 p5 : Option Addr} {n0 n1 n2 n3 n4 n5 c0 c1 c2 c3 c4 c5 : Nat} {l0 l1 l2 l3 l4 l5 : List PrP} (h0 : RdG KPr DPr U p0 n0 c0 l0) (h1 : RdG KPr DPr U p1 n1 c1 l1) (h2 : RdG KPr DPr U p2 n2 c2 l2) (h3 : RdG KPr DPr U p3 n3 c3 l3) (h4 : RdG KPr DPr U p4 n4 c4 l4) (h5 : RdG KPr DPr U p5 n5 c5 l5) (z : Nat) (hz : z < 7) :
    LsAt (U.alloc (.cells #[.slice p0 n0 c0, .slice p1 n1 c1, .slice p2 n2 c2, .slice p3 n3 c3, .slice p4 n4 c4, .slice p5 n5 c5, .slice none 0 0] T)) U.heap.size z := by
  have hb : Below U.heap.size U (U.alloc (.cells #[.slice p0 n0 c0, .slice p1 n1 c1, .slice p2 n2 c2, .slice p3 n3 c3, .slice p4 n4 c4, .slice p5 n5 c5, .slice none 0 0] T)) := (Below.refl _ _).alloc (Nat.le_refl _) _
  have hzz : z = 0 ∨ z = 1 ∨ z = 2 ∨ z = 3 ∨ z = 4 ∨ z = 5 ∨ z = 6 := by omega
  rcases hzz with rfl | rfl | rfl | rfl | rfl | rfl | rfl
  · exact ⟨p0, n0, c0, l0, World.cell?_alloc_at _ _ _ _ rfl, h0.below hb⟩
  · exact ⟨p1, n1, c1, l1, World.cell?_alloc_at _ _ _ _ rfl, h1.below hb⟩
  · exact ⟨p2, n2, c2, l2, World.cell?_alloc_at _ _ _ _ rfl, h2.below hb⟩
  · exact ⟨p3, n3, c3, l3, World.cell?_alloc_at _ _ _ _ rfl, h3.below hb⟩
  · exact ⟨p4, n4, c4, l4, World.cell?_alloc_at _ _ _ _ rfl, h4.below hb⟩
  · exact ⟨p5, n5, c5, l5, World.cell?_alloc_at _ _ _ _ rfl, h5.below hb⟩
  · exact ⟨none, 0, 0, [], World.cell?_alloc_at _ _ _ _ rfl, ⟨rfl, Nat.le_refl _, Nat.zero_le _, fun h => absurd h (by simp), fun x hx => by cases hx⟩⟩
/-- The first lists of the law, before they are spoilt. -/
structure WS (W wS : World) (k B g : Nat) (pl : Option Addr) (nl cl : Nat) (ls : List PrP) (pm : Option Addr) (nm cm : Nat) (ms : List PrP) (py : Option Addr) (ny cy : Nat) (ys : List PrP) (tp : Option Addr) (tc : Nat) (ts : List Tr) : Prop where
  cod : Cod W wS k
  kB : k < B
  Bw : B ≤ wS.heap.size
  l : RowG KPr NPr wS B (.slice pl nl cl) ls
  m : RowG KPr NPr wS B (.slice pm nm cm) ms
  y : RowG KPr NPd wS B (.slice py ny cy) ys
  yd : ∀ x ∈ ys, OkN wS B x
  pin : PrIn wS g 1 1 (.slice none 0 0) (.slice tp ts.length tc)
  kg : k < g
  tr : RowG KTr NTr wS B (.slice tp ts.length tc) ts
theorem WS.alloc {W wS : World} {k B g : Nat} {pl : Option Addr} {nl cl : Nat} {ls : List PrP} {pm : Option Addr} {nm cm : Nat} {ms : List PrP} {py : Option Addr} {ny cy : Nat} {ys : List PrP} {tp : Option Addr} {tc : Nat} {ts : List Tr} (h : WS W wS k B g pl nl cl ls pm nm cm ms py ny cy ys tp tc ts) (o : Obj) : WS W (wS.alloc o) k B g pl nl cl ls pm nm cm ms py ny cy ys tp tc ts := by
  have hg := World.grownBy_alloc wS o (some k)
  exact ⟨h.cod.alloc o, h.kB, Nat.le_trans h.Bw hg.size, h.l.low hg h.kB, h.m.low hg h.kB, h.y.low hg h.kB, fun x hx => NPr.keep (h.yd x hx) hg (OffT.low h.kB), h.pin.grown hg (by have := h.kg; simp; omega), h.kg, h.tr.low hg h.kB⟩
theorem WS.next {W wS U : World} {k B g : Nat} {pl : Option Addr} {nl cl : Nat} {ls : List PrP} {pm : Option Addr} {nm cm : Nat} {ms : List PrP} {py : Option Addr} {ny cy : Nat} {ys : List PrP} {tp : Option Addr} {tc : Nat} {ts : List Tr} (h : WS W wS k B g pl nl cl ls pm nm cm ms py ny cy ys tp tc ts) (hc : Cod W U k) (hg : wS.grownBy U (some k)) : WS W U k B g pl nl cl ls pm nm cm ms py ny cy ys tp tc ts :=
  ⟨hc, h.kB, Nat.le_trans h.Bw hg.size, h.l.low hg h.kB, h.m.low hg h.kB, h.y.low hg h.kB, fun x hx => NPr.keep (h.yd x hx) hg (OffT.low h.kB), h.pin.grown hg (by have := h.kg; simp; omega), h.kg, h.tr.low hg h.kB⟩

set_option maxHeartbeats 12800000 in
set_option maxRecDepth 100000 in
theorem proposalWrites_walk (p : Option Addr) (n c : Nat) (xs : List Int) (w : World) (h : Byt w p n c xs) (b0 : c ≤ 140737488351232) :
    Calls Try.prog 4 #[.slice p n c] w fun e w' => e = .returned (.bool true) ∧ Below w.heap.size w w' := by
  have HX := hidden h
  have HA := hidden (awake04_any w)
  clear h
  go_enter Try.func4, Try.ntmps4
  go_wp2_with (go_at_call 7; (with_reducible refine (HA.out).mono ?_))
  rintro e w1 ⟨rfl, hb⟩
  have HB1 := hidden hb
  clear hb HA
  go_wp2_with (go_at_call 8; (refine (new_any w p n c xs w1 HX.out HB1.out 160 (by omega)).mono ?_))
  rintro e w2 ⟨rfl, hc, hb⟩
  have HC2 := hidden hc
  have hk2 := hc.lt
  have hw1 := HB1.out.size
  clear hc hb HB1 HX
  go_wp2_with (go_at_call 10; (refine (drawP_any w w2 _ HC2.out 3 (by omega) (by omega) 3 (by omega)).mono ?_))
  rintro e w3 ⟨v, ls, rfl, hl1, hl3, hdr, hrow, hcod, hg3⟩
  obtain ⟨pl, cl, rfl⟩ := hrow.form rfl
  have HL3 := hidden hrow
  have HC3 := hidden hcod
  have HDL := hidden hdr
  have hs3 := hg3.size
  clear hrow hcod hdr hg3 HC2
  go_wp2_with (go_at_call 10; (refine (drawP_any w w3 _ HC3.out 2 (by omega) (by omega) 1 (by omega)).mono ?_))
  rintro e w4 ⟨v, ms, rfl, hm1, hm2, hdm, hrowm, hcod, hg4⟩
  obtain ⟨pm, cm, rfl⟩ := hrowm.form rfl
  have HL4 := hidden (HL3.out.low hg4 hk2)
  have HM4 := hidden (hrowm.mono hs3)
  have HC4 := hidden hcod
  have HDM := hidden hdm
  have hs4 := hg4.size
  clear hrowm hcod hdm hg4 HC3 HL3
  obtain ⟨k, hk⟩ : ∃ k, w1.heap.size = k := ⟨_, rfl⟩
  obtain ⟨B, hBe⟩ : ∃ B, w2.heap.size = B := ⟨_, rfl⟩
  rw [hk] at HC4 hk2 ⊢
  rw [hBe] at HL4 HM4 hk2 hs3
  clear hk hBe
  obtain ⟨x0, hx0⟩ : ∃ x0, ls[0]'(by omega) = x0 := ⟨_, rfl⟩
  have hx0m : x0 ∈ ls := by rw [← hx0]; exact List.getElem_mem _
  have hint0 := (HL4.out.ok x0 hx0m).int
  obtain ⟨gl, cl', el, _, _, hgl, hgl2, hcl, _⟩ := HL4.out.at_ rfl (by omega)
  simp at el
  obtain ⟨rfl, rfl⟩ := el
  have l0 := hcl _ _ (KPr.row_get ls 0 (by omega) 0 _ (by rw [hx0]; rfl))
  have l1 := hcl _ _ (KPr.row_get ls 0 (by omega) 1 _ (by rw [hx0]; rfl))
  have l2 := hcl _ _ (KPr.row_get ls 0 (by omega) 2 _ (by rw [hx0]; rfl))
  have l3 := hcl _ _ (KPr.row_get ls 0 (by omega) 3 _ (by rw [hx0]; rfl))
  simp only [Nat.zero_mul, Nat.zero_add] at l0 l1 l2 l3
  have L0 := hidden l0
  have L1 := hidden l1
  have L2 := hidden l2
  have L3 := hidden l3
  have hlp : 0 < ls.length := by omega
  have hlpi : (0 : Int) < ls.length := by omega
  have HX0 := hidden hx0
  have HX0M := hidden hx0m
  have HI0 := hidden hint0
  clear hcl l0 l1 l2 l3 hx0 hx0m hint0
  go_wp2_with fail
  go_loopw [6, 7] (fun u i wr => ∃ (j : Nat) (ys : List PrP), i = .int .i64 j ∧ j ≤ 9 ∧ ys.length = j ∧ (∀ y ∈ ys, ∃ num : Int, (0 ≤ num ∧ num ≤ 10) ∧ y = { x0 with n := num }) ∧ RowG KPr NPd wr w4.heap.size u ys ∧ Cod w wr k ∧ w4.grownBy wr (some k)) (fun _ i _ => 9 - (intOf i).toNat)
  case atStart => exact ⟨0, [], rfl, by omega, rfl, by simp, RowG.nil _ _ _ _, HC4.out, grown_refl _ _⟩
  case round =>
    obtain ⟨j, ys, rfl, hj, hyl, hyx, hry, hcy, hgy⟩ := hrel
    obtain ⟨py, cy, rfl⟩ := hry.form hyl
    have HRY := hidden hry
    have HCY := hidden hcy
    have HGY := hidden hgy
    have HYL := hidden hyl
    have HYX := hidden hyx
    clear hry hcy hgy hyl hyx
    go_wp2_with fail
    go_at_call 11
    (with_reducible refine (next_any w _ k HCY.out 2 (by omega)).mono ?_)
    rintro e wn ⟨r, rfl, r0, r1, hcn, hgn⟩
    have HCN := hidden hcn
    have HRN := hidden (HRY.out.low hgn (by omega))
    have HGN := hidden (grown_trans HGY.out hgn)
    clear hcn hgn HRY HCY HGY
    by_cases hlt : (j : Int) < 8 + r
    · have hj8 : j ≤ 8 := by omega
      have l0 := HGN.out.cell L0.out (by simp; omega)
      have l1 := HGN.out.cell L1.out (by simp; omega)
      have l2 := HGN.out.cell L2.out (by simp; omega)
      have l3 := HGN.out.cell L3.out (by simp; omega)
      have hszn := HGN.out.size
      have hyi : IntP { x0 with n := (j : Int) + 1 } := ⟨⟨by show -9223372036854775808 ≤ (j : Int) + 1; omega, by show (j : Int) + 1 ≤ 9223372036854775807; omega⟩, HI0.out.2⟩
      have HYI := hidden hyi
      have hal : Below wn.heap.size wn (wn.alloc (.cells #[.int .i64 x0.n, .int .i64 x0.p, .slice x0.sp x0.sn x0.sc, .slice x0.tp x0.tn x0.tc] 40)) := (Below.refl _ _).alloc (Nat.le_refl _) _
      have hpi := (PrIn.new wn x0.n x0.p x0.sp x0.sn x0.sc x0.tp x0.tn x0.tc 40).set0 ((j : Int) + 1)
      have hgu := grown_set_new (grown_of_below hal none) wn.heap.size 0 (.int .i64 ((j : Int) + 1)) (Nat.le_refl _)
      have hcu := (HCN.out.below hal).set wn.heap.size 0 (.int .i64 ((j : Int) + 1)) (by have := HCN.out.base; have := HCN.out.lt; omega) (by have := HCN.out.lt; omega)
      obtain ⟨U, hU⟩ : ∃ U, (wn.alloc (.cells #[.int .i64 x0.n, .int .i64 x0.p, .slice x0.sp x0.sn x0.sc, .slice x0.tp x0.tn x0.tc] 40)).setCell ⟨wn.heap.size, 0, none⟩ (.int .i64 ((j : Int) + 1)) = U := ⟨_, rfl⟩
      rw [hU] at hpi hgu hcu
      have u0 := hpi.c0
      have u1 := hpi.c1
      have u2 := hpi.c2
      have u3 := hpi.c3
      have HRU := hidden (HRN.out.grown hgu (by intro r hr; cases hr) (OffT.none _ _ _))
      have HCU := hidden hcu
      have HGU := hidden (grown_trans HGN.out (⟨hgu.os, hgu.tape, hgu.output, hgu.size, fun i hi _ => hgu.block i hi (by simp)⟩ : wn.grownBy U (some k)))
      have husz := HGU.out.size
      clear hyi hal hpi hgu hcu
      go_wp2_with (at_builtin; go_loud (refine wpList_append_g knownPr (by simp [NPd]) _ rfl _ _ rfl w4.heap.size _ ys rfl (HRU.out.alloc _) _ 1 1 [{ x0 with n := (j : Int) + 1 }] rfl (srcPr U { x0 with n := (j : Int) + 1 } _) (fun x hx => by rw [List.mem_singleton.1 hx]; exact HYI.out) ?b1 ?b2 ?b3 ?_))
      case b1 => have := HYL.out; unfold maxLen; omega
      case b2 => have := HYL.out; omega
      case b3 => simp; omega
      intro v5 w5 hr5 hg5
      have hk5 : ∀ r, (Value.slice py j cy).ownBlock = some r → w4.heap.size ≤ r := fun r hr => (HRU.out.lt r hr).1
      have HR5 := hidden hr5
      have HC5 := hidden ((HCU.out.alloc (.cells #[.int .i64 ((j : Int) + 1), .int .i64 x0.p, .slice x0.sp x0.sn x0.sc, .slice x0.tp x0.tn x0.tc] 40)).grown hg5 (fun e => by have := hk5 k e.symm; omega) (fun q hq => by have := hk5 q hq; have := HCU.out.base; omega))
      have HG5 := hidden (grown_own (grown_alloc_new HGU.out _) hg5 hk5)
      clear hr5 hg5 hk5 u0 u1 u2 u3 hU l0 l1 l2 l3
      go_wp2_with fail
      go_roundw
      case rel => exact ⟨j + 1, ys ++ [{ x0 with n := (j : Int) + 1 }], by go_num, by omega, by rw [List.length_append, HYL.out]; rfl, fun y hy => by
        rcases List.mem_append.1 hy with hy | hy
        · exact HYX.out y hy
        · exact ⟨(j : Int) + 1, by omega, List.mem_singleton.1 hy⟩, HR5.out, HC5.out, HG5.out⟩
      case measure => simp [intOf]; omega
    · have hkn : k < wn.heap.size := HCN.out.lt
      have HPN := hidden (PrIn.new wn 1 1 none 0 0 none 0 0 40)
      have hal : Below wn.heap.size wn (wn.alloc (.cells #[.int .i64 1, .int .i64 1, .slice none 0 0, .slice none 0 0] 40)) := (Below.refl _ _).alloc (Nat.le_refl _) _
      have HCA := hidden (HCN.out.below hal)
      have HGA := hidden (grown_of_below hal (some k))
      clear hal
      go_wp2_with fail
      go_loopw [11] (fun i wr => ∃ (q : Nat) (tp : Option Addr) (tc : Nat) (ts : List Tr), i = .int .i64 q ∧ q ≤ 25 ∧ ts.length = q ∧ PrIn wr wn.heap.size 1 1 (.slice none 0 0) (.slice tp ts.length tc) ∧ RowG KTr NTr wr (wn.heap.size + 1) (.slice tp ts.length tc) ts ∧ Cod w wr k ∧ wn.grownBy wr (some k)) (fun i _ => 25 - (intOf i).toNat)
      case atStart => exact ⟨0, none, 0, [], rfl, by omega, rfl, HPN.out, RowG.nil _ _ _ _, HCA.out, HGA.out⟩
      case round =>
        rename World => wz
        obtain ⟨q, tp, tc, ts, rfl, hq, htl, hpi, htr, hcz, hgz⟩ := hrel
        have HPZ := hidden hpi
        have HTZ := hidden htr
        have HCZ := hidden hcz
        have HGZ := hidden hgz
        have HTL := hidden htl
        clear hpi htr hcz hgz htl HPN HCA HGA
        go_wp2_with fail
        go_at_call 11
        (with_reducible refine (next_any w _ k HCZ.out 2 (by omega)).mono ?_)
        rintro e wt ⟨r2, rfl, r20, r21, hct, hgt⟩
        have HCT := hidden hct
        have HPT := hidden (HPZ.out.grown hgt (by simp; omega))
        have HTT := hidden (HTZ.out.low hgt (by omega))
        have HGT := hidden (grown_trans HGZ.out hgt)
        have hszt := HGT.out.size
        clear hct hgt HCZ HPZ HTZ HGZ
        have p3 := HPT.out.c3
        have pf := HPT.out.fr
        by_cases hl2 : (q : Int) < 24 + r2
        · have hq24 : q ≤ 24 := by omega
          have hitn : IntT ⟨1, (q : Int), 0⟩ := intT_of (by omega) (by omega) (by omega)
          have HIT := hidden hitn
          have hgn : wn.heap.size < wt.heap.size := HPT.out.lt
          clear hitn
          go_wp2_with (at_builtin; go_loud (refine wpList_append_g knownTr (by simp [NTr]) _ rfl _ _ rfl (wn.heap.size + 1) _ ts rfl (HTT.out.alloc _) _ 1 1 [⟨1, (q : Int), 0⟩] rfl (srcTr wt 1 q 0 _) (fun x hx => by rw [List.mem_singleton.1 hx]; exact HIT.out) ?b1 ?b2 ?b3 ?_))
          case b1 => have := HTL.out; unfold maxLen; omega
          case b2 => have := HTL.out; omega
          case b3 => simp; omega
          intro v7 w7 hr7 hg7
          obtain ⟨p7, c7, rfl⟩ := hr7.form rfl
          have hk7 : ∀ r, (Value.slice tp ts.length tc).ownBlock = some r → wn.heap.size + 1 ≤ r := fun r hr => (HTT.out.lt r hr).1
          have hp7 := (HPT.out.below ((Below.refl _ _).alloc (Nat.le_refl _) (.cells #[.int .i64 1, .int .i64 (q : Int), .int .i64 0] 42))).grown hg7 (fun e => by have := hk7 _ e.symm; omega)
          have hc7 := (HCT.out.alloc (.cells #[.int .i64 1, .int .i64 (q : Int), .int .i64 0] 42)).grown hg7 (fun e => by have := hk7 k e.symm; omega) (fun i hi => by have := hk7 i hi; have := HCT.out.base; omega)
          have hg8 := grown_own (grown_alloc_new HGT.out (.cells #[.int .i64 1, .int .i64 (q : Int), .int .i64 0] 42)) hg7 (fun i hi => by have := hk7 i hi; omega)
          have d3 := hp7.c3
          have df := hp7.fr
          have HP8 := hidden (hp7.set3 p7 (ts ++ [(⟨1, (q : Int), 0⟩ : Tr)]).length c7)
          have HC8 := hidden (hc7.set wn.heap.size 3 (.slice p7 (ts ++ [(⟨1, (q : Int), 0⟩ : Tr)]).length c7) (by have := HCN.out.base; omega) (by omega))
          have HG8 := hidden (grown_set_new hg8 wn.heap.size 3 (.slice p7 (ts ++ [(⟨1, (q : Int), 0⟩ : Tr)]).length c7) (Nat.le_refl _))
          have HT8 := hidden (hr7.low (grown_set w7 wn.heap.size 3 (.slice p7 (ts ++ [(⟨1, (q : Int), 0⟩ : Tr)]).length c7)) (by omega))
          have HLN : Hid ((ts ++ [(⟨1, (q : Int), 0⟩ : Tr)]).length = q + 1) := hidden (by rw [List.length_append, HTL.out]; rfl)
          clear hr7 hg7 hk7 hp7 hc7 hg8 p3 pf
          go_wp2_with fail
          go_roundw
          case rel =>
            refine ⟨q + 1, p7, c7, ts ++ [⟨1, (q : Int), 0⟩], by go_num, by omega, HLN.out, ?_, ?_, ?_, ?_⟩
            · simpa using HP8.out
            · simpa using HT8.out
            · simpa using HC8.out
            · simpa using HG8.out
          case measure => simp [intOf]; omega
        · have hws : WS w wt k B wn.heap.size (some ⟨gl, 0, none⟩) ls.length cl ls pm ms.length cm ms py j cy ys tp tc ts := by
            have hg4t := grown_trans HGN.out HGT.out
            have hszN := HGN.out.size
            refine ⟨HCT.out, hk2, by omega, HL4.out.low hg4t hk2, HM4.out.low hg4t hk2, (HRN.out.low HGT.out (by omega)).mono (by omega), fun y hy => ?_, HPT.out, hkn, HTT.out.mono (by have := HGN.out.size; omega)⟩
            obtain ⟨num, hnum, rfl⟩ := HYX.out y hy
            have h0 := NPr.keep (HL4.out.ok x0 HX0M.out) hg4t (OffT.low hk2)
            exact ⟨⟨⟨by show -9223372036854775808 ≤ num; omega, by show num ≤ 9223372036854775807; omega⟩, HI0.out.2⟩, h0.s, h0.ts⟩
          have HWS := hidden hws
          have hws : WS w wt.drew k B wn.heap.size (some ⟨gl, 0, none⟩) ls.length cl ls pm ms.length cm ms py j cy ys tp tc ts := hws.next (hws.cod.below (drew_below ⟨1, rfl⟩)) (grown_drewN wt 1 _)
          have HLT := hidden (show ∀ x ∈ ls, x.ts.length ≤ 6 from fun x hx => by
            obtain ⟨q, hq, rfl⟩ := List.mem_iff_getElem.1 hx
            exact (HDL.out q hq).ts.few)
          have HMT := hidden (show ∀ x ∈ ms, x.ts.length ≤ 6 from fun x hx => by
            obtain ⟨q, hq, rfl⟩ := List.mem_iff_getElem.1 hx
            exact (HDM.out q hq).ts.few)
          have hwsA : WS w (wt.alloc (.cells #[.int .i64 1, .int .i64 1, .slice none 0 0, .slice tp ts.length tc] 40)).drew k B wn.heap.size (some ⟨gl, 0, none⟩) ls.length cl ls pm ms.length cm ms py j cy ys tp tc ts := hws.alloc (.cells #[.int .i64 1, .int .i64 1, .slice none 0 0, .slice tp ts.length tc] 40)
          have hX0 : ∀ y ∈ [(⟨1, 1, none, 0, 0, [], tp, ts.length, tc, ts⟩ : PrP)], NPd.ok wt wt.heap.size y := fun y hy => by
            rw [List.mem_singleton.1 hy]
            exact ⟨⟨by simp, by simp⟩, by simp, by simp⟩
          have HX0 := hidden (show ∀ (U : World) (b : Nat), ∀ y ∈ [(⟨1, 1, none, 0, 0, [], tp, ts.length, tc, ts⟩ : PrP)], NPd.ok U b y from fun _ _ y hy => hX0 y hy)
          have hsz : wt.heap.size ≤ wt.drew.heap.size := Nat.le_refl _
          have hkwt : k < wt.heap.size := by omega
          have hlsl : ls.length ≤ 100 := by omega
          clear hX0
          go_wp2_with fail
          go_region_held3 (fun w' => w'.cell? ⟨wn.heap.size, 0, none⟩ = some (.int .i64 1) ∧ w'.cell? ⟨wn.heap.size, 1, none⟩ = some (.int .i64 1) ∧ w'.cell? ⟨wn.heap.size, 2, none⟩ = some (.slice none 0 0) ∧ w'.cell? ⟨wn.heap.size, 3, none⟩ = some (.slice tp ts.length tc)) (first | exact ⟨hws.pin.c0, hws.pin.c1, hws.pin.c2, hws.pin.c3⟩ | exact ⟨hwsA.pin.c0, hwsA.pin.c1, hwsA.pin.c2, hwsA.pin.c3⟩ | exact ⟨(hws.alloc _).pin.c0, (hws.alloc _).pin.c1, (hws.alloc _).pin.c2, (hws.alloc _).pin.c3⟩ | go_keep | fail)
            ((first
            | (go_at_call 16; (with_reducible refine (spoil_any w _ k hws.cod B hws.Bw hk2 _ _ _ ls hws.l rfl (by omega) 6 (by omega) HLT.out).mono ?_); rintro e UA ⟨v1, l1, rfl, hn1, ht1, s1, hcA, hgA⟩; obtain ⟨p1, c1, rfl⟩ := s1.form rfl; (try (have hsrc := hsrc.row hgA hbk)); (try (have r6 := r6.low hgA hkwt)); have hsz := Nat.le_trans hsz hgA.size; (try (have s2 := s2.low hgA hk2)); (try (have s3 := s3.low hgA hk2)); have hws := hws.next hcA hgA)
            | (go_at_call 16; (with_reducible refine (spoil_any w _ k (hws.alloc (.cells #[.int .i64 1, .int .i64 1, .slice none 0 0, .slice tp ts.length tc] 40)).cod B (hws.alloc (.cells #[.int .i64 1, .int .i64 1, .slice none 0 0, .slice tp ts.length tc] 40)).Bw hk2 _ _ _ ls (hws.alloc (.cells #[.int .i64 1, .int .i64 1, .slice none 0 0, .slice tp ts.length tc] 40)).l rfl (by omega) 6 (by omega) HLT.out).mono ?_); rintro e UA ⟨v1, l1, rfl, hn1, ht1, s1, hcA, hgA⟩; obtain ⟨p1, c1, rfl⟩ := s1.form rfl; have hbk := Nat.ne_of_gt (Nat.lt_of_lt_of_le hws.kB hws.Bw); have hsrc := (srcPr _ (⟨1, 1, none, 0, 0, [], tp, ts.length, tc, ts⟩ : PrP) 40).row hgA hbk; have hsz := Nat.le_trans (Nat.le_trans hsz (World.grownBy_alloc _ (.cells #[.int .i64 1, .int .i64 1, .slice none 0 0, .slice tp ts.length tc] 40) none).size) hgA.size; (try (have s2 := (s2.alloc (.cells #[.int .i64 1, .int .i64 1, .slice none 0 0, .slice tp ts.length tc] 40)).low hgA hk2)); (try (have s3 := (s3.alloc (.cells #[.int .i64 1, .int .i64 1, .slice none 0 0, .slice tp ts.length tc] 40)).low hgA hk2)); have hws := (hws.alloc (.cells #[.int .i64 1, .int .i64 1, .slice none 0 0, .slice tp ts.length tc] 40)).next hcA hgA)
            | (go_at_call 16; (with_reducible refine (spoil_any w _ k hws.cod B hws.Bw hk2 _ _ _ ms hws.m rfl (by omega) 6 (by omega) HMT.out).mono ?_); rintro e UA ⟨v2, l2, rfl, hn2, ht2, s2, hcA, hgA⟩; obtain ⟨p2, c2, rfl⟩ := s2.form rfl; (try (have hsrc := hsrc.row hgA hbk)); (try (have r6 := r6.low hgA hkwt)); have hsz := Nat.le_trans hsz hgA.size; (try (have s1 := s1.low hgA hk2)); (try (have s3 := s3.low hgA hk2)); have hws := hws.next hcA hgA)
            | (go_at_call 16; (with_reducible refine (spoil_any w _ k (hws.alloc (.cells #[.int .i64 1, .int .i64 1, .slice none 0 0, .slice tp ts.length tc] 40)).cod B (hws.alloc (.cells #[.int .i64 1, .int .i64 1, .slice none 0 0, .slice tp ts.length tc] 40)).Bw hk2 _ _ _ ms (hws.alloc (.cells #[.int .i64 1, .int .i64 1, .slice none 0 0, .slice tp ts.length tc] 40)).m rfl (by omega) 6 (by omega) HMT.out).mono ?_); rintro e UA ⟨v2, l2, rfl, hn2, ht2, s2, hcA, hgA⟩; obtain ⟨p2, c2, rfl⟩ := s2.form rfl; have hbk := Nat.ne_of_gt (Nat.lt_of_lt_of_le hws.kB hws.Bw); have hsrc := (srcPr _ (⟨1, 1, none, 0, 0, [], tp, ts.length, tc, ts⟩ : PrP) 40).row hgA hbk; have hsz := Nat.le_trans (Nat.le_trans hsz (World.grownBy_alloc _ (.cells #[.int .i64 1, .int .i64 1, .slice none 0 0, .slice tp ts.length tc] 40) none).size) hgA.size; (try (have s1 := (s1.alloc (.cells #[.int .i64 1, .int .i64 1, .slice none 0 0, .slice tp ts.length tc] 40)).low hgA hk2)); (try (have s3 := (s3.alloc (.cells #[.int .i64 1, .int .i64 1, .slice none 0 0, .slice tp ts.length tc] 40)).low hgA hk2)); have hws := (hws.alloc (.cells #[.int .i64 1, .int .i64 1, .slice none 0 0, .slice tp ts.length tc] 40)).next hcA hgA)
            | (go_at_call 16; (with_reducible refine (spoil_any w _ k hws.cod B hws.Bw hk2 _ _ _ l2 s2 rfl (by omega) 7 (by omega) ht2).mono ?_); rintro e UA ⟨v3, l3, rfl, hn3, ht3, s3, hcA, hgA⟩; obtain ⟨p3, c3, rfl⟩ := s3.form rfl; (try (have hsrc := hsrc.row hgA hbk)); (try (have r6 := r6.low hgA hkwt)); have hsz := Nat.le_trans hsz hgA.size; (try (have s1 := s1.low hgA hk2)); (try (have s2 := s2.low hgA hk2)); have hws := hws.next hcA hgA)
            | (go_at_call 16; (with_reducible refine (spoil_any w _ k (hws.alloc (.cells #[.int .i64 1, .int .i64 1, .slice none 0 0, .slice tp ts.length tc] 40)).cod B (hws.alloc (.cells #[.int .i64 1, .int .i64 1, .slice none 0 0, .slice tp ts.length tc] 40)).Bw hk2 _ _ _ l2 (s2.alloc _) rfl (by omega) 7 (by omega) ht2).mono ?_); rintro e UA ⟨v3, l3, rfl, hn3, ht3, s3, hcA, hgA⟩; obtain ⟨p3, c3, rfl⟩ := s3.form rfl; have hbk := Nat.ne_of_gt (Nat.lt_of_lt_of_le hws.kB hws.Bw); have hsrc := (srcPr _ (⟨1, 1, none, 0, 0, [], tp, ts.length, tc, ts⟩ : PrP) 40).row hgA hbk; have hsz := Nat.le_trans (Nat.le_trans hsz (World.grownBy_alloc _ (.cells #[.int .i64 1, .int .i64 1, .slice none 0 0, .slice tp ts.length tc] 40) none).size) hgA.size; (try (have s1 := (s1.alloc (.cells #[.int .i64 1, .int .i64 1, .slice none 0 0, .slice tp ts.length tc] 40)).low hgA hk2)); (try (have s2 := (s2.alloc (.cells #[.int .i64 1, .int .i64 1, .slice none 0 0, .slice tp ts.length tc] 40)).low hgA hk2)); have hws := (hws.alloc (.cells #[.int .i64 1, .int .i64 1, .slice none 0 0, .slice tp ts.length tc] 40)).next hcA hgA)
            | (refine step_append_g knownPr (by simp [NPd]) _ (by rfl) _ _ (by rfl) wt.heap.size _ [] (by rfl) (RowG.nil KPr NPd _ _) _ 1 1 [(⟨1, 1, none, 0, 0, [], tp, ts.length, tc, ts⟩ : PrP)] (by rfl) (srcPr _ (⟨1, 1, none, 0, 0, [], tp, ts.length, tc, ts⟩ : PrP) _) (HX0.out _ _) (by unfold maxLen; simp) (by simp) (Nat.le_trans hsz (World.grownBy_alloc _ (.cells #[.int .i64 1, .int .i64 1, .slice none 0 0, .slice tp ts.length tc] 40) none).size) ?_; intro v6 w6 r6 hg6; obtain ⟨p6, c6, rfl⟩ := r6.form rfl; have hgn : World.grownBy _ w6 none := hg6; have hws := (hws.alloc (.cells #[.int .i64 1, .int .i64 1, .slice none 0 0, .slice tp ts.length tc] 40)).next ((hws.alloc (.cells #[.int .i64 1, .int .i64 1, .slice none 0 0, .slice tp ts.length tc] 40)).cod.grown hgn (by simp) (by intro j hj; cases hj)) (gnk hgn); have hsz := Nat.le_trans (Nat.le_trans hsz (World.grownBy_alloc _ (.cells #[.int .i64 1, .int .i64 1, .slice none 0 0, .slice tp ts.length tc] 40) none).size) hgn.size; (try (have s1 := (s1.alloc (.cells #[.int .i64 1, .int .i64 1, .slice none 0 0, .slice tp ts.length tc] 40)).none hgn)); (try (have s2 := (s2.alloc (.cells #[.int .i64 1, .int .i64 1, .slice none 0 0, .slice tp ts.length tc] 40)).none hgn)); (try (have s3 := (s3.alloc (.cells #[.int .i64 1, .int .i64 1, .slice none 0 0, .slice tp ts.length tc] 40)).none hgn)))
            | (refine step_append_g knownPr (by simp [NPd]) _ (by rfl) _ _ (by rfl) wt.heap.size _ [] (by rfl) (RowG.nil KPr NPd _ _) _ 1 1 [(⟨1, 1, none, 0, 0, [], tp, ts.length, tc, ts⟩ : PrP)] (by rfl) hsrc (HX0.out _ _) (by unfold maxLen; simp) (by simp) hsz ?_; intro v6 w6 r6 hg6; obtain ⟨p6, c6, rfl⟩ := r6.form rfl; have hgn : World.grownBy _ w6 none := hg6; have hws := hws.next (hws.cod.grown hgn (by simp) (by intro j hj; cases hj)) (gnk hgn); have hsz := Nat.le_trans hsz hgn.size; (try (have s1 := (s1).none hgn)); (try (have s2 := (s2).none hgn)); (try (have s3 := (s3).none hgn)))
            | (go_at_call 16; (with_reducible refine (spoil_any w _ k hwsA.cod B hwsA.Bw hk2 _ _ _ ls hwsA.l rfl (by omega) 6 (by omega) HLT.out).mono ?_); rintro e UA ⟨v1, l1, rfl, hn1, ht1, s1, hcA, hgA⟩; obtain ⟨p1, c1, rfl⟩ := s1.form rfl; have hbk := Nat.ne_of_gt (Nat.lt_of_lt_of_le hws.kB hws.Bw); have hsrc := (srcPr wt.drew (⟨1, 1, none, 0, 0, [], tp, ts.length, tc, ts⟩ : PrP) 40).row hgA hbk; have hsz := Nat.le_trans (Nat.le_trans hsz (World.grownBy_alloc wt.drew (.cells #[.int .i64 1, .int .i64 1, .slice none 0 0, .slice tp ts.length tc] 40) none).size) hgA.size; have hws := hwsA.next hcA hgA)
            | fail))
          all_goals
            rename World => UF
            have hwide : RdG KPr DPr UF p6 1 c6 [(⟨1, 1, none, 0, 0, [], tp, ts.length, tc, ts⟩ : PrP)] := RowG.rd2 r6 (fun y hy => by
              rw [List.mem_singleton.1 hy]
              exact ⟨⟨⟨by simp, by simp⟩, by simp, by simp⟩, Byt.nil _ _ _ (Nat.zero_le _), RowG.rd2 hws.tr (fun z hz => hws.tr.ok z hz)⟩)
            have hin := lists7 UF 29 hws.l.rdP hws.m.rdP s1.rdP s3.rdP (RowG.rd2' hws.y HYL.out (fun y hy => (hws.yd y hy).rd)) hwide
            have HIN := hidden hin
            have HBF := hidden (hws.cod.bel.alloc hws.cod.bel.size (.cells #[.slice (some ⟨gl, 0, none⟩) ls.length cl, .slice pm ms.length cm, .slice p1 l1.length c1, .slice p3 l3.length c3, .slice py j cy, .slice p6 1 c6, .slice none 0 0] 29))
            clear hin hwide s1 s2 s3 r6 hws HWS hsz hwsA
            go_wp2_with fail
            go_loopw [75] (fun i wr => ∃ q : Nat, q ≤ 7 ∧ i = .int .i64 q ∧ (∀ z, z < 7 → LsAt wr UF.heap.size z) ∧ Below w.heap.size w wr) (fun i _ => 7 - (intOf i).toNat)
            case atStart => exact ⟨0, by omega, rfl, HIN.out, HBF.out⟩
            case round =>
              rename World => wr
              obtain ⟨q, hq, rfl, hin, hbw⟩ := hrel
              have HBW := hidden hbw
              have HIW := hidden hin
              clear HIN HBF
              by_cases hq7 : ¬ q < 7
              · obtain rfl : q = 7 := by omega
                clear hin hbw
                go_wp2_with fail
                go_ret
                exact ⟨rfl, HBW.out⟩
              replace hq7 : q < 7 := by omega
              have hq7i : (q : Int) < 7 := by omega
              obtain ⟨pp, nn, cc, lq, hcell, hrd⟩ := hin q hq7
              obtain ⟨L, E, hLE⟩ : ∃ L E, buildP (lq.map PrP.pr) = (L, E) := ⟨_, _, rfl⟩
              obtain ⟨E2, hE2⟩ : ∃ E2, checkP (lq.map PrP.pr) = E2 := ⟨_, rfl⟩
              have HRD := hidden hrd
              have HLE := hidden hLE
              have HE2 := hidden hE2
              have hEE : (E != E) = false := by simp
              have hEE2 : (E2 != E2) = false := by simp
              clear hin hbw hrd hLE hE2
              go_wp2_with fail
              go_at_call 17
              (with_reducible refine (pbuild_b pp nn cc lq _ HRD.out L E HLE.out).mono ?_)
              rintro e wb ⟨pb, cb, rfl, hyb, hbb⟩
              have HRB := hidden (HRD.out.below hbb)
              have HYB := hidden hyb
              have HBB := hidden hbb
              clear hyb hbb hcell
              go_wp2_with fail
              go_at_call 9
              (with_reducible refine (rbuild_b pp nn cc lq _ HRB.out L E HLE.out).mono ?_)
              rintro e wc ⟨pc, c7, rfl, hyc, hbc⟩
              have HRC := hidden (HRB.out.below hbc)
              have HBC := hidden (HBB.out.trans (hbc.mono HBB.out.size))
              have HEQ := hidden ((requal_any pb pc L.length cb L.length c7 L L wc (HYB.out.below hbc) hyc).mono (R' := fun e w' => e = .returned (.bool true) ∧ ∃ r, w' = wc.drewN r) (fun e w' ⟨h1, h2⟩ => ⟨by rw [h1]; simp, h2⟩))
              clear hyc hbc
              go_wp2_with fail
              go_at_call 18
              (with_reducible refine (HEQ.out).mono ?_)
              rintro e wd ⟨rfl, rd, rfl⟩
              have HRD2 := hidden (HRC.out.below (w' := wc.drewN rd) (drew_below ⟨rd, rfl⟩))
              have HBD := hidden (HBC.out.trans (drew_below (B := wr.heap.size) (w := wc) (w' := wc.drewN rd) ⟨rd, rfl⟩))
              go_wp2_with fail
              go_at_call 19
              (with_reducible refine (checkAll_any pp nn cc lq _ HRD2.out E2 HE2.out).mono ?_)
              rintro e we ⟨rfl, hbe⟩
              have HRE := hidden (HRD2.out.below hbe)
              have HBE := hidden (HBD.out.trans (hbe.mono HBD.out.size))
              clear hbe
              go_wp2_with fail
              go_at_call 20
              (with_reducible refine (rcheckAll_any pp nn cc lq _ HRE.out E2 HE2.out).mono ?_)
              rintro e wf ⟨rfl, hbf⟩
              have HBF := hidden (HBE.out.trans (hbf.mono HBE.out.size))
              clear hbf
              go_wp2_with fail
              go_roundw
              case rel => exact ⟨q + 1, by omega, by go_num, fun z hz => (HIW.out z hz).below HBF.out, HBW.out.trans (HBF.out.mono HBW.out.size)⟩
              case measure => simp [intOf]; omega
end Go.Proofs.Yteopllkjdmpacaa
