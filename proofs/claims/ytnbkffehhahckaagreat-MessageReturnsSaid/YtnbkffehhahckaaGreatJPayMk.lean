/-
  The payloads that a list of choices makes: what is known of them, and where they stand while they are made.
-/
import Derived.Test.YtnbkffehhahckaaGreatJPayKp
import Derived.Test.YtnbkffehhahckaaGreatJZ8
import Derived.Test.YtnbkffehhahckaaGreatJDrawP
import Derived.Test.YtnbkffehhahckaaGreatJZ16
import Derived.Test.YtnbkffehhahckaaGreatJZ9
namespace Go.Proofs.YtnbkffehhahckaaGreat
open Go.RowKit
set_option linter.unusedVariables false
def NumOk (x : Pv) : Prop := 0 ≤ x.nt ∧ x.nt ≤ 65535 ∧ x.ns.n ≤ 100 ∧ x.nd.n ≤ 100
def Vld (x : Pv) (C : Pc) : Prop :=
  if x.t = 33 then checkP (C.pr.map PrP.pr) = 0
  else if x.t = 34 then (x.eg = 31 ∨ x.eg = 1024) ∧ x.ed.n = 8
  else if x.t = 35 ∨ x.t = 36 then (x.ik = 2 ∨ x.ik = 3 ∨ x.ik = 11) ∧ 1 ≤ x.id.n ∧ x.id.n ≤ 100
  else if x.t = 39 then (x.am = 2 ∨ x.am = 14) ∧ 1 ≤ x.ad.n ∧ x.ad.n ≤ 100
  else if x.t = 40 then 16 ≤ x.da.n ∧ x.da.n ≤ 100
  else if x.t = 41 then (x.np = 0 ∧ x.ns.n = 0) ∨ (x.np = 3 ∧ x.ns.n = 4)
  else if x.t = 42 then (x.dp = 1 ∧ C.ds = []) ∨ (x.dp = 3 ∧ (C.ds.map Sb.xs = [[1, 2, 3, 4]] ∨ C.ds.map Sb.xs = [[1, 2, 3, 4], [1, 2, 3, 5]]))
  else if x.t = 44 ∨ x.t = 45 then (∀ s ∈ C.se, GoodS s) ∧ 1 ≤ C.se.length ∧ C.se.length ≤ 2
  else x.da.n ≤ 100
def MadePv (W w : World) (k : Nat) (K : Int) (e : Ending) (w' : World) : Prop := ∃ (x : Pv) (C : Pc), e = .returned (.agg #[.int .i64 x.t, .slice x.pr.p x.pr.n x.pr.c, .int .i64 x.eg, .slice x.ed.p x.ed.n x.ed.c, .int .i64 x.ik, .slice x.id.p x.id.n x.id.c, .int .i64 x.am, .slice x.ad.p x.ad.n x.ad.c, .int .i64 x.np, .slice x.ns.p x.ns.n x.ns.c, .int .i64 x.nt, .slice x.nd.p x.nd.n x.nd.c, .int .i64 x.dp, .slice x.ds.p x.ds.n x.ds.c, .slice x.se.p x.se.n x.se.c, .slice x.da.p x.da.n x.da.c]) ∧ x.t = K ∧ PvKp w' w.heap.size x C ∧ RowG KPr NPr w' w.heap.size (.slice x.pr.p x.pr.n x.pr.c) C.pr ∧ C.pr.length = x.pr.n ∧ x.pr.n ≤ 2 ∧ x.se.n ≤ 2 ∧ (∀ z ∈ C.pr, z.ts.length ≤ 6) ∧ Cod W w' k ∧ w.grownBy w' (some k) ∧ NumOk x ∧ Vld x C
theorem vld33 {x : Pv} {C : Pc} (e : x.t = 33) : Vld x C ↔ (checkP (C.pr.map PrP.pr) = 0) := by
  unfold Vld
  rw [e]
  rw [if_pos (by decide)]
theorem vld34 {x : Pv} {C : Pc} (e : x.t = 34) : Vld x C ↔ ((x.eg = 31 ∨ x.eg = 1024) ∧ x.ed.n = 8) := by
  unfold Vld
  rw [e]
  rw [if_neg (by decide)]
  rw [if_pos (by decide)]
theorem vld35 {x : Pv} {C : Pc} (e : x.t = 35) : Vld x C ↔ ((x.ik = 2 ∨ x.ik = 3 ∨ x.ik = 11) ∧ 1 ≤ x.id.n ∧ x.id.n ≤ 100) := by
  unfold Vld
  rw [e]
  rw [if_neg (by decide)]
  rw [if_neg (by decide)]
  rw [if_pos (by decide)]
theorem vld36 {x : Pv} {C : Pc} (e : x.t = 36) : Vld x C ↔ ((x.ik = 2 ∨ x.ik = 3 ∨ x.ik = 11) ∧ 1 ≤ x.id.n ∧ x.id.n ≤ 100) := by
  unfold Vld
  rw [e]
  rw [if_neg (by decide)]
  rw [if_neg (by decide)]
  rw [if_pos (by decide)]
theorem vld39 {x : Pv} {C : Pc} (e : x.t = 39) : Vld x C ↔ ((x.am = 2 ∨ x.am = 14) ∧ 1 ≤ x.ad.n ∧ x.ad.n ≤ 100) := by
  unfold Vld
  rw [e]
  rw [if_neg (by decide)]
  rw [if_neg (by decide)]
  rw [if_neg (by decide)]
  rw [if_pos (by decide)]
theorem vld40 {x : Pv} {C : Pc} (e : x.t = 40) : Vld x C ↔ (16 ≤ x.da.n ∧ x.da.n ≤ 100) := by
  unfold Vld
  rw [e]
  rw [if_neg (by decide)]
  rw [if_neg (by decide)]
  rw [if_neg (by decide)]
  rw [if_neg (by decide)]
  rw [if_pos (by decide)]
theorem vld41 {x : Pv} {C : Pc} (e : x.t = 41) : Vld x C ↔ ((x.np = 0 ∧ x.ns.n = 0) ∨ (x.np = 3 ∧ x.ns.n = 4)) := by
  unfold Vld
  rw [e]
  rw [if_neg (by decide)]
  rw [if_neg (by decide)]
  rw [if_neg (by decide)]
  rw [if_neg (by decide)]
  rw [if_neg (by decide)]
  rw [if_pos (by decide)]
theorem vld42 {x : Pv} {C : Pc} (e : x.t = 42) : Vld x C ↔ ((x.dp = 1 ∧ C.ds = []) ∨ (x.dp = 3 ∧ (C.ds.map Sb.xs = [[1, 2, 3, 4]] ∨ C.ds.map Sb.xs = [[1, 2, 3, 4], [1, 2, 3, 5]]))) := by
  unfold Vld
  rw [e]
  rw [if_neg (by decide)]
  rw [if_neg (by decide)]
  rw [if_neg (by decide)]
  rw [if_neg (by decide)]
  rw [if_neg (by decide)]
  rw [if_neg (by decide)]
  rw [if_pos (by decide)]
theorem vld44 {x : Pv} {C : Pc} (e : x.t = 44) : Vld x C ↔ ((∀ s ∈ C.se, GoodS s) ∧ 1 ≤ C.se.length ∧ C.se.length ≤ 2) := by
  unfold Vld
  rw [e]
  rw [if_neg (by decide)]
  rw [if_neg (by decide)]
  rw [if_neg (by decide)]
  rw [if_neg (by decide)]
  rw [if_neg (by decide)]
  rw [if_neg (by decide)]
  rw [if_neg (by decide)]
  rw [if_pos (by decide)]
theorem vld45 {x : Pv} {C : Pc} (e : x.t = 45) : Vld x C ↔ ((∀ s ∈ C.se, GoodS s) ∧ 1 ≤ C.se.length ∧ C.se.length ≤ 2) := by
  unfold Vld
  rw [e]
  rw [if_neg (by decide)]
  rw [if_neg (by decide)]
  rw [if_neg (by decide)]
  rw [if_neg (by decide)]
  rw [if_neg (by decide)]
  rw [if_neg (by decide)]
  rw [if_neg (by decide)]
  rw [if_pos (by decide)]
theorem vld37 {x : Pv} {C : Pc} (e : x.t = 37) : Vld x C ↔ (x.da.n ≤ 100) := by
  unfold Vld
  rw [e]
  rw [if_neg (by decide)]
  rw [if_neg (by decide)]
  rw [if_neg (by decide)]
  rw [if_neg (by decide)]
  rw [if_neg (by decide)]
  rw [if_neg (by decide)]
  rw [if_neg (by decide)]
  rw [if_neg (by decide)]
theorem vld43 {x : Pv} {C : Pc} (e : x.t = 43) : Vld x C ↔ (x.da.n ≤ 100) := by
  unfold Vld
  rw [e]
  rw [if_neg (by decide)]
  rw [if_neg (by decide)]
  rw [if_neg (by decide)]
  rw [if_neg (by decide)]
  rw [if_neg (by decide)]
  rw [if_neg (by decide)]
  rw [if_neg (by decide)]
  rw [if_neg (by decide)]
structure PyS (W w wx : World) (k : Nat) (x : Pv) : Prop where
  cod : Cod W wx k
  gr : w.grownBy wx (some k)
  R : PvIn wx w.heap.size zeroP
  S : PvIn wx (w.heap.size + 1) x
  ge : w.heap.size + 2 ≤ wx.heap.size
section
variable {W w wx wy : World} {k : Nat} {x : Pv}
theorem PyS.new (h : Cod W w k) (t : Int) : PyS W w ((w.alloc (.cells #[.int .i64 0, .slice none 0 0, .int .i64 0, .slice none 0 0, .int .i64 0, .slice none 0 0, .int .i64 0, .slice none 0 0, .int .i64 0, .slice none 0 0, .int .i64 0, .slice none 0 0, .int .i64 0, .slice none 0 0, .slice none 0 0, .slice none 0 0] 56)).alloc (.cells #[.int .i64 t, .slice none 0 0, .int .i64 0, .slice none 0 0, .int .i64 0, .slice none 0 0, .int .i64 0, .slice none 0 0, .int .i64 0, .slice none 0 0, .int .i64 0, .slice none 0 0, .int .i64 0, .slice none 0 0, .slice none 0 0, .slice none 0 0] 56)) k { zeroP with t := t } :=
  ⟨(h.alloc _).alloc _, grown_alloc_new (grown_alloc_new (grown_refl w _) _) _, (PvIn.new w zeroP 56).alloc _, by
    have := PvIn.new (w.alloc (.cells #[.int .i64 0, .slice none 0 0, .int .i64 0, .slice none 0 0, .int .i64 0, .slice none 0 0, .int .i64 0, .slice none 0 0, .int .i64 0, .slice none 0 0, .int .i64 0, .slice none 0 0, .int .i64 0, .slice none 0 0, .slice none 0 0, .slice none 0 0] 56)) { zeroP with t := t } 56
    simpa [zeroP, nilV] using this, by simp⟩
theorem PyS.grown (h : PyS W w wx k x) (hk : k < w.heap.size) (hc : Cod W wy k) (hg : wx.grownBy wy (some k)) : PyS W w wy k x :=
  ⟨hc, grown_trans h.gr hg, h.R.grown hg (by simp; omega), h.S.grown hg (by simp; omega), by have := h.ge; have := hg.size; omega⟩
theorem PyS.alloc (h : PyS W w wx k x) (o : Obj) : PyS W w (wx.alloc o) k x := ⟨h.cod.alloc o, grown_alloc_new h.gr o, h.R.alloc o, h.S.alloc o, by have := h.ge; simp; omega⟩
theorem PyS.drew (h : PyS W w wx k x) : PyS W w wx.drew k x :=
  ⟨h.cod.below (drew_below ⟨1, rfl⟩), grown_trans h.gr (grown_drewN wx 1 _), h.R.below (drew_below ⟨1, rfl⟩), h.S.below (drew_below ⟨1, rfl⟩), h.ge⟩
theorem PyS.ret (h : PyS W w wx k x) (hk : k < w.heap.size) (hb : W.heap.size ≤ w.heap.size) (hy : wx.grownBy wy (some (w.heap.size + 1))) (y : Pv) :
    PvIn (setPv wy w.heap.size y) w.heap.size y ∧ Cod W (setPv wy w.heap.size y) k ∧ w.grownBy (setPv wy w.heap.size y) (some k) ∧ Kpt wx (setPv wy w.heap.size y) (w.heap.size + 2) := by
  have hs := setPv_grown wy w.heap.size y
  have hR : PvIn wy w.heap.size zeroP := h.R.grown hy (by simp)
  refine ⟨setPv_in hR y, (h.cod.grown hy (by simp; omega) (by intro j hj; simp at hj; omega)).grown hs (by simp; omega) (by intro j hj; simp at hj; omega), ?_, (Kpt.low hy (by omega)).trans (Kpt.low hs (by omega))⟩
  exact grown_own (grown_own h.gr hy (by intro j hj; simp at hj; omega)) hs (by intro j hj; simp at hj; omega)
theorem next_ps (h : PyS W w wx k x) (hk : k < w.heap.size) (m : Int) (hm : 1 ≤ m ∧ m ≤ 9223372036854775807) :
    Calls Tryz.prog 13 #[.pointer (some ⟨k, 0, none⟩), .int .i64 m] wx fun e w' => ∃ r : Int, e = .returned (.int .i64 r) ∧ 0 ≤ r ∧ r < m ∧ PyS W w w' k x ∧ wx.grownBy w' (some k) :=
  (next_any W wx k h.cod m hm).mono fun e w' ⟨r, he, h0, h1, hc, hg⟩ => ⟨r, he, h0, h1, h.grown hk hc hg, hg⟩
theorem bytes_ps (h : PyS W w wx k x) (hk : k < w.heap.size) (n : Nat) (hn : n ≤ 100000) :
    Calls Tryz.prog 29 #[.pointer (some ⟨k, 0, none⟩), .int .i64 n] wx fun e w' => ∃ p c ys, e = .returned (.slice p n c) ∧ Bod w' (w.heap.size + 2) p n c ys ∧ PyS W w w' k x ∧ wx.grownBy w' (some k) :=
  (mbytes_any W wx k h.cod n hn).mono fun e w' ⟨p, c, ys, he, hb, hc, hg⟩ => ⟨p, c, ys, he, hb.mono h.ge, h.grown hk hc hg, hg⟩
end
theorem ret_pv1 {fn : Func} {R : Ending → World → Prop} {a : Act} {w : World} {p : Nat} {g : Nat} {x : Pv} (h : fn.results = #[.cell p 56]) (hp : a.tmps.getD p undef = .pointer (some ⟨g, 0, none⟩)) (hd : a.defers = [])
    (hh : PvIn w g x) (hR : R (.returned (.agg #[.int .i64 x.t, .slice x.pr.p x.pr.n x.pr.c, .int .i64 x.eg, .slice x.ed.p x.ed.n x.ed.c, .int .i64 x.ik, .slice x.id.p x.id.n x.id.c, .int .i64 x.am, .slice x.ad.p x.ad.n x.ad.c, .int .i64 x.np, .slice x.ns.p x.ns.n x.ns.c, .int .i64 x.nt, .slice x.nd.p x.nd.n x.nd.c, .int .i64 x.dp, .slice x.ds.p x.ds.n x.ds.c, .slice x.se.p x.se.n x.se.c, .slice x.da.p x.da.n x.da.c])) w) : bodyPost Tryz.prog fn R .ret a w := by
  refine bodyPost_ret (v := (.agg #[.int .i64 x.t, .slice x.pr.p x.pr.n x.pr.c, .int .i64 x.eg, .slice x.ed.p x.ed.n x.ed.c, .int .i64 x.ik, .slice x.id.p x.id.n x.id.c, .int .i64 x.am, .slice x.ad.p x.ad.n x.ad.c, .int .i64 x.np, .slice x.ns.p x.ns.n x.ns.c, .int .i64 x.nt, .slice x.nd.p x.nd.n x.nd.c, .int .i64 x.dp, .slice x.ds.p x.ds.n x.ds.c, .slice x.se.p x.se.n x.se.c, .slice x.da.p x.da.n x.da.c])) ?_ hd hR
  rw [Array.getD_eq_getD_getElem?] at hp
  simp [results, h, hp, asAddr, load_pv hh]
def C0 : Pc := ⟨[], [], [], [], [], [], [], [], []⟩
theorem made_plain {W w wx wz : World} {k : Nat} {y : Pv} {C : Pc} {K : Int} (ht : y.t = K) (hp : y.pr = nilV) (hc : C.pr = []) (hrd : ∀ w', Kpt wx w' (w.heap.size + 2) → PvRd w' y C) (h1 : Cod W wz k) (h2 : w.grownBy wz (some k)) (h3 : Kpt wx wz (w.heap.size + 2)) (hv : Vld y C) (hs : y.se.n ≤ 2 := by first | exact Nat.zero_le 2 | assumption) (hnum : NumOk y := by (refine ⟨?_, ?_, ?_, ?_⟩ <;> (try dsimp only [nilV]) <;> omega)) : MadePv W w k K (.returned (.agg #[.int .i64 y.t, .slice y.pr.p y.pr.n y.pr.c, .int .i64 y.eg, .slice y.ed.p y.ed.n y.ed.c, .int .i64 y.ik, .slice y.id.p y.id.n y.id.c, .int .i64 y.am, .slice y.ad.p y.ad.n y.ad.c, .int .i64 y.np, .slice y.ns.p y.ns.n y.ns.c, .int .i64 y.nt, .slice y.nd.p y.nd.n y.nd.c, .int .i64 y.dp, .slice y.ds.p y.ds.n y.ds.c, .slice y.se.p y.se.n y.se.c, .slice y.da.p y.da.n y.da.c])) wz :=
  ⟨y, C, rfl, ht, fun w' hw => hrd w' (h3.trans (hw.mono (by omega))), by rw [hp, hc]; exact RowG.nil _ _ _ _, by rw [hp, hc]; rfl, by rw [hp]; show 0 ≤ 2; omega, hs, (by rw [hc]; intro z hz; cases hz), h1, h2, hnum, hv⟩
set_option maxHeartbeats 1600000 in
set_option maxRecDepth 100000 in
theorem mkpay33 (W w : World) (k : Nat) (h : Cod W w k) : Calls Tryz.prog 14 #[.pointer (some ⟨k, 0, none⟩), .int .i64 33] w (MadePv W w k 33) := by
  have hk := h.lt
  have hbase := h.bel.size
  have H0 := hidden (PyS.new h 33)
  clear h
  go_enter Tryz.func14, Tryz.ntmps14
  go_wp2_with (first
    | (go_at_call 13; (with_reducible refine (next_ps H0.out hk _ ?_).mono ?_); omega; rintro e w1 ⟨r, rfl, r0, r1, hd, hg⟩; have H1 := hidden hd; have hw1 : IntKind.i64.wrap (2 * r) = 2 * r := (by rw [IntKind.wrap_i64]; omega); have hw2 : IntKind.i64.wrap (1 + 2 * r) = 1 + 2 * r := (by rw [IntKind.wrap_i64]; omega); clear hd hg H0)
    | (go_at_call 27; (refine (drawP_any W w1 _ H1.out.cod 2 (by omega) (by omega) (1 + 2 * r) (by omega)).mono ?_); rintro e w2 ⟨v, ls, rfl, hl1, hl2, hdr, hrow, hc, hg⟩; have H2 := hidden (H1.out.grown hk hc hg); have HCK := hidden (hdr.check (by omega) hl1 (by omega)); have HTS := hidden (show ∀ z ∈ ls, z.ts.length ≤ 6 from fun z hz => by obtain ⟨j, hj, rfl⟩ := List.getElem_of_mem hz; exact (hdr j hj).ts.few); obtain ⟨pv, cv, rfl⟩ := hrow.form rfl; have HRW := hidden (hrow.mono H1.out.ge); obtain ⟨y0, y1, y2, y3, y4, y5, y6, y7, y8, y9, y10, y11, y12, y13, y14, y15, z0, z1, z2, z3, z4, z5, z6, z7, z8, z9, z10, z11, z12, z13, z14, z15, zf⟩ := H2.out.R.any; obtain ⟨s0, s1, s2, s3, s4, s5, s6, s7, s8, s9, s10, s11, s12, s13, s14, s15, sf⟩ := H2.out.S; simp only [zeroP, nilV] at s0 s1 s2 s3 s4 s5 s6 s7 s8 s9 s10 s11 s12 s13 s14 s15; clear hdr hrow hc hg H1)
    | fail)
  have hz := H2.out.ret hk hbase (wy := w2.setCell ⟨w.heap.size + 1, 1, none⟩ (.slice pv ls.length cv)) (grown_set _ _ _ _) ⟨33, ⟨pv, ls.length, cv⟩, 0, nilV, 0, nilV, 0, nilV, 0, nilV, 0, nilV, 0, nilV, nilV, nilV⟩
  have hrw := (HRW.out.low (grown_set w2 (w.heap.size + 1) 1 (.slice pv ls.length cv)) (by omega)).low (setPv_grown _ w.heap.size ⟨33, ⟨pv, ls.length, cv⟩, 0, nilV, 0, nilV, 0, nilV, 0, nilV, 0, nilV, 0, nilV, nilV, nilV⟩) (by omega)
  simp only [setPv, nilV] at hz hrw
  refine ret_pv1 (g := w.heap.size) rfl rfl rfl hz.1 ⟨⟨33, ⟨pv, ls.length, cv⟩, 0, nilV, 0, nilV, 0, nilV, 0, nilV, 0, nilV, 0, nilV, nilV, nilV⟩, { C0 with pr := ls }, rfl, rfl, ?_, hrw.mono (by omega), rfl, hl2, Nat.zero_le 2, HTS.out, hz.2.1, hz.2.2.1, by (refine ⟨?_, ?_, ?_, ?_⟩ <;> (try dsimp only [nilV]) <;> omega), (vld33 rfl).2 HCK.out⟩
  exact fun w' hk' => ⟨RowG.kp hrw rfl (hk'.mono (by omega)) (fun x hx => OkN.kp hx (hk'.mono (by omega))), byt_nil _, byt_nil _, byt_nil _, byt_nil _, byt_nil _, rdg_nil _ _ _, rdg_nil _ _ _, byt_nil _⟩
set_option maxHeartbeats 1600000 in
set_option maxRecDepth 100000 in
theorem mkpay40 (W w : World) (k : Nat) (h : Cod W w k) : Calls Tryz.prog 14 #[.pointer (some ⟨k, 0, none⟩), .int .i64 40] w (MadePv W w k 40) := by
  have hk := h.lt
  have hbase := h.bel.size
  have H0 := hidden (PyS.new h 40)
  clear h
  go_enter Tryz.func14, Tryz.ntmps14
  go_wp2_with (first
    | (go_at_call 13; (with_reducible refine (next_ps H0.out hk _ ?_).mono ?_); omega; rintro e w1 ⟨r, rfl, r0, r1, hd, hg⟩; obtain ⟨r, rfl⟩ := Int.eq_ofNat_of_zero_le r0; have H1 := hidden hd; have hw1 : IntKind.i64.wrap (16 + (r : Int)) = ((16 + r : Nat) : Int) := (by rw [IntKind.wrap_i64]; omega); clear hd hg H0)
    | (go_at_call 29; (refine (bytes_ps H1.out hk (16 + r) ?_).mono ?_); omega; rintro e w2 ⟨pv, cv, ys, rfl, hb, hd, hg⟩; have H2 := hidden hd; have HBO := hidden hb; obtain ⟨y0, y1, y2, y3, y4, y5, y6, y7, y8, y9, y10, y11, y12, y13, y14, y15, z0, z1, z2, z3, z4, z5, z6, z7, z8, z9, z10, z11, z12, z13, z14, z15, zf⟩ := H2.out.R.any; obtain ⟨s0, s1, s2, s3, s4, s5, s6, s7, s8, s9, s10, s11, s12, s13, s14, s15, sf⟩ := H2.out.S; simp only [zeroP, nilV] at s0 s1 s2 s3 s4 s5 s6 s7 s8 s9 s10 s11 s12 s13 s14 s15; clear hd hb hg H1)
    | fail)
  have hz := H2.out.ret hk hbase (wy := w2.setCell ⟨w.heap.size + 1, 15, none⟩ (.slice pv (16 + r) cv)) (grown_set _ _ _ _) ⟨40, nilV, 0, nilV, 0, nilV, 0, nilV, 0, nilV, 0, nilV, 0, nilV, nilV, ⟨pv, 16 + r, cv⟩⟩
  simp only [setPv, nilV] at hz
  exact ret_pv1 (g := w.heap.size) rfl rfl rfl hz.1 (made_plain (C := { C0 with da := ys }) rfl rfl rfl (fun w' hk' => ⟨rdg_nil _ _ _, byt_nil _, byt_nil _, byt_nil _, byt_nil _, byt_nil _, rdg_nil _ _ _, rdg_nil _ _ _, HBO.out.kp hk'⟩) hz.2.1 hz.2.2.1 hz.2.2.2 ((vld40 rfl).2 ⟨by show 16 ≤ 16 + r; omega, by show 16 + r ≤ 100; omega⟩))
end Go.Proofs.YtnbkffehhahckaaGreat
