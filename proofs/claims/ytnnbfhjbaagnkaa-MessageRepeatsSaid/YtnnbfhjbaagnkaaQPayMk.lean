/-
  The payloads that a list of choices makes: what is known of them, and where they stand while they are made.
-/
import Derived.Test.YtnnbfhjbaagnkaaQPayEq4
import Derived.Test.YtnnbfhjbaagnkaaQMkBytes
import Derived.Test.YtnnbfhjbaagnkaaQDrawP
import Derived.Test.YtnnbfhjbaagnkaaQZ4
namespace Go.Proofs.Ytnnbfhjbaagnkaa
open Go.RowKit
set_option linter.unusedVariables false

/-- The other world has the cells of the blocks from base on. -/
def Kpt (w w' : World) (base : Nat) : Prop := ∀ a v, base ≤ a.block → w.cell? a = some v → w'.cell? a = some v
theorem Kpt.refl (w : World) (base : Nat) : Kpt w w base := fun _ _ _ h => h
theorem Kpt.mono {w w' : World} {base base' : Nat} (h : Kpt w w' base) (hb : base ≤ base') : Kpt w w' base' := fun a v ha hc => h a v (by omega) hc
theorem Kpt.trans {a b c : World} {base : Nat} (h : Kpt a b base) (k : Kpt b c base) : Kpt a c base := fun x v hx hc => k x v hx (h x v hx hc)
theorem Kpt.low {w w' : World} {base r : Nat} (hg : w.grownBy w' (some r)) (hr : r < base) : Kpt w w' base := fun a v ha hc => hg.cell hc (by simp; omega)
theorem Kpt.alloc (w : World) (o : Obj) (base : Nat) : Kpt w (w.alloc o) base := fun a v _ hc => cell_below ((Below.refl _ w).alloc (Nat.le_refl _) o) a v hc
theorem Kpt.drew (w : World) (base r : Nat) : Kpt w (w.drewN r) base := fun a v _ hc => hc
theorem Bod.kp {w w' : World} {base : Nat} {p : Option Addr} {n c : Nat} {xs : List Int} (h : Bod w base p n c xs) (hk : Kpt w w' base) : Byt w' p n c xs :=
  ⟨h.byt.len, h.byt.cap, h.byt.big, h.byt.rng, fun hn => by
    obtain ⟨b, o, e, hc⟩ := h.byt.mem hn
    obtain ⟨b', o', cur, fz, e', hb, -⟩ := h.own (by have := h.byt.len; omega)
    rw [e] at e'
    injection e' with e'
    injection e' with e1 e2
    subst e1
    exact ⟨b, o, e, fun i hi => hk _ _ hb (hc i hi)⟩⟩
theorem RowG.kp {α : Type} {K : KindR α} {N : NestR α} {D : ReadN α} {w w' : World} {base : Nat} {p : Option Addr} {n c : Nat} {l : List α} (h : RowG K N w base (.slice p n c) l) (hl : l.length = n) (hk : Kpt w w' base) (hd : ∀ x, N.ok w base x → D.ok w' x) : RdG K D w' p n c l := by
  have hok : ∀ x ∈ l, D.ok w' x := fun x hx => hd x (h.ok x hx)
  rcases h.own.2 with ⟨e, h0⟩ | ⟨g, cap, cur, e, hg, hh, hnc, hm, hs, ht⟩
  · simp at e
    obtain ⟨rfl, rfl, rfl⟩ := e
    exact ⟨hl, by omega, by unfold maxLen; omega, fun h => by omega, hok⟩
  · simp at e
    obtain ⟨rfl, rfl, rfl⟩ := e
    refine ⟨hl, hnc, hm, fun h0 => ⟨g, rfl, fun j u hj => ?_⟩, hok⟩
    have := World.ownsRow.cells h.own (g := g) rfl j u hj
    rw [WideShapes.add_plain, Nat.zero_add] at this
    exact hk _ _ hg this
theorem OkN.kp {w w' : World} {base : Nat} {x : PrP} (h : OkN w base x) (hk : Kpt w w' base) : OkD w' x := by
  have hl : x.ts.length = x.tn := by
    rcases h.ts.form rfl with ⟨p, c, e⟩
    simp at e
    exact e.2.1.symm
  exact ⟨h.int, h.s.kp hk, RowG.kp (D := DTr) h.ts hl hk (fun _ h => h)⟩
theorem rdg_nil {α : Type} (K : KindR α) (D : ReadN α) (w : World) : RdG K D w none 0 0 [] := ⟨rfl, Nat.le_refl _, by unfold maxLen; omega, fun h => by omega, fun x hx => by cases hx⟩
theorem byt_nil (w : World) : Byt w none 0 0 [] := Byt.nil _ _ _ (by unfold maxLen; omega)

/-- The payload can be read wherever the blocks from base on are as they were. -/
def PvKp (w : World) (base : Nat) (x : Pv) (C : Pc) : Prop := ∀ w', Kpt w w' base → PvRd w' x C
theorem PvKp.rd {w : World} {base : Nat} {x : Pv} {C : Pc} (h : PvKp w base x C) : PvRd w x C := h w (Kpt.refl _ _)
theorem PvKp.step {w w' : World} {base : Nat} {x : Pv} {C : Pc} (h : PvKp w base x C) (hk : Kpt w w' base) : PvKp w' base x C := fun w'' h2 => h w'' (hk.trans h2)
theorem PvKp.mono {w : World} {base base' : Nat} {x : Pv} {C : Pc} (h : PvKp w base x C) (hb : base' ≤ base) : PvKp w base' x C := fun w' hk => h w' (hk.mono hb)

/-- What a list of choices makes: a payload of a type, with proposals of the call's own. -/
def NumOk (x : Pv) : Prop := 0 ≤ x.nt ∧ x.nt ≤ 65535 ∧ x.ns.n ≤ 100 ∧ x.nd.n ≤ 100
def MadePv (W w : World) (k : Nat) (K : Int) (e : Ending) (w' : World) : Prop := ∃ (x : Pv) (C : Pc), e = .returned (.agg #[.int .i64 x.t, .slice x.pr.p x.pr.n x.pr.c, .int .i64 x.eg, .slice x.ed.p x.ed.n x.ed.c, .int .i64 x.ik, .slice x.id.p x.id.n x.id.c, .int .i64 x.am, .slice x.ad.p x.ad.n x.ad.c, .int .i64 x.np, .slice x.ns.p x.ns.n x.ns.c, .int .i64 x.nt, .slice x.nd.p x.nd.n x.nd.c, .int .i64 x.dp, .slice x.ds.p x.ds.n x.ds.c, .slice x.se.p x.se.n x.se.c, .slice x.da.p x.da.n x.da.c]) ∧ x.t = K ∧ PvKp w' w.heap.size x C ∧ RowG KPr NPr w' w.heap.size (.slice x.pr.p x.pr.n x.pr.c) C.pr ∧ C.pr.length = x.pr.n ∧ x.pr.n ≤ 2 ∧ x.se.n ≤ 2 ∧ (∀ z ∈ C.pr, z.ts.length ≤ 6) ∧ Cod W w' k ∧ w.grownBy w' (some k) ∧ NumOk x

/-- While it is made: the result's block, the payload's own block, the choices. -/
structure PyS (W w wx : World) (k : Nat) (x : Pv) : Prop where
  cod : Cod W wx k
  gr : w.grownBy wx (some k)
  R : PvIn wx w.heap.size zeroP
  S : PvIn wx (w.heap.size + 1) x
  ge : w.heap.size + 2 ≤ wx.heap.size
section
variable {W w wx wy : World} {k : Nat} {x : Pv}
theorem PyS.new (h : Cod W w k) (t : Int) : PyS W w ((w.alloc (.cells #[.int .i64 0, .slice none 0 0, .int .i64 0, .slice none 0 0, .int .i64 0, .slice none 0 0, .int .i64 0, .slice none 0 0, .int .i64 0, .slice none 0 0, .int .i64 0, .slice none 0 0, .int .i64 0, .slice none 0 0, .slice none 0 0, .slice none 0 0] 50)).alloc (.cells #[.int .i64 t, .slice none 0 0, .int .i64 0, .slice none 0 0, .int .i64 0, .slice none 0 0, .int .i64 0, .slice none 0 0, .int .i64 0, .slice none 0 0, .int .i64 0, .slice none 0 0, .int .i64 0, .slice none 0 0, .slice none 0 0, .slice none 0 0] 50)) k { zeroP with t := t } :=
  ⟨(h.alloc _).alloc _, grown_alloc_new (grown_alloc_new (grown_refl w _) _) _, (PvIn.new w zeroP 50).alloc _, by
    have := PvIn.new (w.alloc (.cells #[.int .i64 0, .slice none 0 0, .int .i64 0, .slice none 0 0, .int .i64 0, .slice none 0 0, .int .i64 0, .slice none 0 0, .int .i64 0, .slice none 0 0, .int .i64 0, .slice none 0 0, .int .i64 0, .slice none 0 0, .slice none 0 0, .slice none 0 0] 50)) { zeroP with t := t } 50
    simpa [zeroP, nilV] using this, by simp⟩
theorem PyS.grown (h : PyS W w wx k x) (hk : k < w.heap.size) (hc : Cod W wy k) (hg : wx.grownBy wy (some k)) : PyS W w wy k x :=
  ⟨hc, grown_trans h.gr hg, h.R.grown hg (by simp; omega), h.S.grown hg (by simp; omega), by have := h.ge; have := hg.size; omega⟩
theorem PyS.alloc (h : PyS W w wx k x) (o : Obj) : PyS W w (wx.alloc o) k x := ⟨h.cod.alloc o, grown_alloc_new h.gr o, h.R.alloc o, h.S.alloc o, by have := h.ge; simp; omega⟩
theorem PyS.drew (h : PyS W w wx k x) : PyS W w wx.drew k x :=
  ⟨h.cod.below (drew_below ⟨1, rfl⟩), grown_trans h.gr (grown_drewN wx 1 _), h.R.below (drew_below ⟨1, rfl⟩), h.S.below (drew_below ⟨1, rfl⟩), h.ge⟩
/-- The payload laid into the result. -/
theorem PyS.ret (h : PyS W w wx k x) (hk : k < w.heap.size) (hb : W.heap.size ≤ w.heap.size) (hy : wx.grownBy wy (some (w.heap.size + 1))) (y : Pv) :
    PvIn (setPv wy w.heap.size y) w.heap.size y ∧ Cod W (setPv wy w.heap.size y) k ∧ w.grownBy (setPv wy w.heap.size y) (some k) ∧ Kpt wx (setPv wy w.heap.size y) (w.heap.size + 2) := by
  have hs := setPv_grown wy w.heap.size y
  have hR : PvIn wy w.heap.size zeroP := h.R.grown hy (by simp)
  refine ⟨setPv_in hR y, (h.cod.grown hy (by simp; omega) (by intro j hj; simp at hj; omega)).grown hs (by simp; omega) (by intro j hj; simp at hj; omega), ?_, (Kpt.low hy (by omega)).trans (Kpt.low hs (by omega))⟩
  exact grown_own (grown_own h.gr hy (by intro j hj; simp at hj; omega)) hs (by intro j hj; simp at hj; omega)
theorem next_ps (h : PyS W w wx k x) (hk : k < w.heap.size) (m : Int) (hm : 1 ≤ m ∧ m ≤ 9223372036854775807) :
    Calls Try.prog 8 #[.pointer (some ⟨k, 0, none⟩), .int .i64 m] wx fun e w' => ∃ r : Int, e = .returned (.int .i64 r) ∧ 0 ≤ r ∧ r < m ∧ PyS W w w' k x ∧ wx.grownBy w' (some k) :=
  (next_any W wx k h.cod m hm).mono fun e w' ⟨r, he, h0, h1, hc, hg⟩ => ⟨r, he, h0, h1, h.grown hk hc hg, hg⟩
theorem bytes_ps (h : PyS W w wx k x) (hk : k < w.heap.size) (n : Nat) (hn : n ≤ 100000) :
    Calls Try.prog 19 #[.pointer (some ⟨k, 0, none⟩), .int .i64 n] wx fun e w' => ∃ p c ys, e = .returned (.slice p n c) ∧ Bod w' (w.heap.size + 2) p n c ys ∧ PyS W w w' k x ∧ wx.grownBy w' (some k) :=
  (mbytes_any W wx k h.cod n hn).mono fun e w' ⟨p, c, ys, he, hb, hc, hg⟩ => ⟨p, c, ys, he, hb.mono h.ge, h.grown hk hc hg, hg⟩
end
theorem ret_pv1 {fn : Func} {R : Ending → World → Prop} {a : Act} {w : World} {p : Nat} {g : Nat} {x : Pv} (h : fn.results = #[.cell p 50]) (hp : a.tmps.getD p undef = .pointer (some ⟨g, 0, none⟩)) (hd : a.defers = [])
    (hh : PvIn w g x) (hR : R (.returned (.agg #[.int .i64 x.t, .slice x.pr.p x.pr.n x.pr.c, .int .i64 x.eg, .slice x.ed.p x.ed.n x.ed.c, .int .i64 x.ik, .slice x.id.p x.id.n x.id.c, .int .i64 x.am, .slice x.ad.p x.ad.n x.ad.c, .int .i64 x.np, .slice x.ns.p x.ns.n x.ns.c, .int .i64 x.nt, .slice x.nd.p x.nd.n x.nd.c, .int .i64 x.dp, .slice x.ds.p x.ds.n x.ds.c, .slice x.se.p x.se.n x.se.c, .slice x.da.p x.da.n x.da.c])) w) : bodyPost Try.prog fn R .ret a w := by
  refine bodyPost_ret (v := (.agg #[.int .i64 x.t, .slice x.pr.p x.pr.n x.pr.c, .int .i64 x.eg, .slice x.ed.p x.ed.n x.ed.c, .int .i64 x.ik, .slice x.id.p x.id.n x.id.c, .int .i64 x.am, .slice x.ad.p x.ad.n x.ad.c, .int .i64 x.np, .slice x.ns.p x.ns.n x.ns.c, .int .i64 x.nt, .slice x.nd.p x.nd.n x.nd.c, .int .i64 x.dp, .slice x.ds.p x.ds.n x.ds.c, .slice x.se.p x.se.n x.se.c, .slice x.da.p x.da.n x.da.c])) ?_ hd hR
  rw [Array.getD_eq_getD_getElem?] at hp
  simp [results, h, hp, asAddr, load_pv hh]
def C0 : Pc := ⟨[], [], [], [], [], [], [], [], []⟩
/-- A made payload without proposals. -/
theorem made_plain {W w wx wz : World} {k : Nat} {y : Pv} {C : Pc} {K : Int} (ht : y.t = K) (hp : y.pr = nilV) (hc : C.pr = []) (hrd : ∀ w', Kpt wx w' (w.heap.size + 2) → PvRd w' y C) (h1 : Cod W wz k) (h2 : w.grownBy wz (some k)) (h3 : Kpt wx wz (w.heap.size + 2)) (hs : y.se.n ≤ 2 := by first | exact Nat.zero_le 2 | assumption) (hnum : NumOk y := by (refine ⟨?_, ?_, ?_, ?_⟩ <;> (try dsimp only [nilV]) <;> omega)) : MadePv W w k K (.returned (.agg #[.int .i64 y.t, .slice y.pr.p y.pr.n y.pr.c, .int .i64 y.eg, .slice y.ed.p y.ed.n y.ed.c, .int .i64 y.ik, .slice y.id.p y.id.n y.id.c, .int .i64 y.am, .slice y.ad.p y.ad.n y.ad.c, .int .i64 y.np, .slice y.ns.p y.ns.n y.ns.c, .int .i64 y.nt, .slice y.nd.p y.nd.n y.nd.c, .int .i64 y.dp, .slice y.ds.p y.ds.n y.ds.c, .slice y.se.p y.se.n y.se.c, .slice y.da.p y.da.n y.da.c])) wz :=
  ⟨y, C, rfl, ht, fun w' hw => hrd w' (h3.trans (hw.mono (by omega))), by rw [hp, hc]; exact RowG.nil _ _ _ _, by rw [hp, hc]; rfl, by rw [hp]; show 0 ≤ 2; omega, hs, (by rw [hc]; intro z hz; cases hz), h1, h2, hnum⟩

set_option maxHeartbeats 1600000 in
set_option maxRecDepth 100000 in
theorem mkpay33 (W w : World) (k : Nat) (h : Cod W w k) : Calls Try.prog 11 #[.pointer (some ⟨k, 0, none⟩), .int .i64 33] w (MadePv W w k 33) := by
  have hk := h.lt
  have hbase := h.bel.size
  have H0 := hidden (PyS.new h 33)
  clear h
  go_enter Try.func11, Try.ntmps11
  go_wp2_with (first
    | (go_at_call 8; (with_reducible refine (next_ps H0.out hk _ ?_).mono ?_); omega; rintro e w1 ⟨r, rfl, r0, r1, hd, hg⟩; have H1 := hidden hd; have hw1 : IntKind.i64.wrap (2 * r) = 2 * r := (by rw [IntKind.wrap_i64]; omega); have hw2 : IntKind.i64.wrap (1 + 2 * r) = 1 + 2 * r := (by rw [IntKind.wrap_i64]; omega); clear hd hg H0)
    | (go_at_call 17; (refine (drawP_any W w1 _ H1.out.cod 2 (by omega) (by omega) (1 + 2 * r) (by omega)).mono ?_); rintro e w2 ⟨v, ls, rfl, hl1, hl2, hdr, hrow, hc, hg⟩; have H2 := hidden (H1.out.grown hk hc hg); have HTS := hidden (show ∀ z ∈ ls, z.ts.length ≤ 6 from fun z hz => by obtain ⟨j, hj, rfl⟩ := List.getElem_of_mem hz; exact (hdr j hj).ts.few); obtain ⟨pv, cv, rfl⟩ := hrow.form rfl; have HRW := hidden (hrow.mono H1.out.ge); obtain ⟨y0, y1, y2, y3, y4, y5, y6, y7, y8, y9, y10, y11, y12, y13, y14, y15, z0, z1, z2, z3, z4, z5, z6, z7, z8, z9, z10, z11, z12, z13, z14, z15, zf⟩ := H2.out.R.any; obtain ⟨s0, s1, s2, s3, s4, s5, s6, s7, s8, s9, s10, s11, s12, s13, s14, s15, sf⟩ := H2.out.S; simp only [zeroP, nilV] at s0 s1 s2 s3 s4 s5 s6 s7 s8 s9 s10 s11 s12 s13 s14 s15; clear hdr hrow hc hg H1)
    | fail)
  have hz := H2.out.ret hk hbase (wy := w2.setCell ⟨w.heap.size + 1, 1, none⟩ (.slice pv ls.length cv)) (grown_set _ _ _ _) ⟨33, ⟨pv, ls.length, cv⟩, 0, nilV, 0, nilV, 0, nilV, 0, nilV, 0, nilV, 0, nilV, nilV, nilV⟩
  have hrw := (HRW.out.low (grown_set w2 (w.heap.size + 1) 1 (.slice pv ls.length cv)) (by omega)).low (setPv_grown _ w.heap.size ⟨33, ⟨pv, ls.length, cv⟩, 0, nilV, 0, nilV, 0, nilV, 0, nilV, 0, nilV, 0, nilV, nilV, nilV⟩) (by omega)
  simp only [setPv, nilV] at hz hrw
  refine ret_pv1 (g := w.heap.size) rfl rfl rfl hz.1 ⟨⟨33, ⟨pv, ls.length, cv⟩, 0, nilV, 0, nilV, 0, nilV, 0, nilV, 0, nilV, 0, nilV, nilV, nilV⟩, { C0 with pr := ls }, rfl, rfl, ?_, hrw.mono (by omega), rfl, hl2, Nat.zero_le 2, HTS.out, hz.2.1, hz.2.2.1, by (refine ⟨?_, ?_, ?_, ?_⟩ <;> (try dsimp only [nilV]) <;> omega)⟩
  exact fun w' hk' => ⟨RowG.kp hrw rfl (hk'.mono (by omega)) (fun x hx => OkN.kp hx (hk'.mono (by omega))), byt_nil _, byt_nil _, byt_nil _, byt_nil _, byt_nil _, rdg_nil _ _ _, rdg_nil _ _ _, byt_nil _⟩

set_option maxHeartbeats 1600000 in
set_option maxRecDepth 100000 in
theorem mkpay40 (W w : World) (k : Nat) (h : Cod W w k) : Calls Try.prog 11 #[.pointer (some ⟨k, 0, none⟩), .int .i64 40] w (MadePv W w k 40) := by
  have hk := h.lt
  have hbase := h.bel.size
  have H0 := hidden (PyS.new h 40)
  clear h
  go_enter Try.func11, Try.ntmps11
  go_wp2_with (first
    | (go_at_call 8; (with_reducible refine (next_ps H0.out hk _ ?_).mono ?_); omega; rintro e w1 ⟨r, rfl, r0, r1, hd, hg⟩; obtain ⟨r, rfl⟩ := Int.eq_ofNat_of_zero_le r0; have H1 := hidden hd; have hw1 : IntKind.i64.wrap (16 + (r : Int)) = ((16 + r : Nat) : Int) := (by rw [IntKind.wrap_i64]; omega); clear hd hg H0)
    | (go_at_call 19; (refine (bytes_ps H1.out hk (16 + r) ?_).mono ?_); omega; rintro e w2 ⟨pv, cv, ys, rfl, hb, hd, hg⟩; have H2 := hidden hd; have HBO := hidden hb; obtain ⟨y0, y1, y2, y3, y4, y5, y6, y7, y8, y9, y10, y11, y12, y13, y14, y15, z0, z1, z2, z3, z4, z5, z6, z7, z8, z9, z10, z11, z12, z13, z14, z15, zf⟩ := H2.out.R.any; obtain ⟨s0, s1, s2, s3, s4, s5, s6, s7, s8, s9, s10, s11, s12, s13, s14, s15, sf⟩ := H2.out.S; simp only [zeroP, nilV] at s0 s1 s2 s3 s4 s5 s6 s7 s8 s9 s10 s11 s12 s13 s14 s15; clear hd hb hg H1)
    | fail)
  have hz := H2.out.ret hk hbase (wy := w2.setCell ⟨w.heap.size + 1, 15, none⟩ (.slice pv (16 + r) cv)) (grown_set _ _ _ _) ⟨40, nilV, 0, nilV, 0, nilV, 0, nilV, 0, nilV, 0, nilV, 0, nilV, nilV, ⟨pv, 16 + r, cv⟩⟩
  simp only [setPv, nilV] at hz
  exact ret_pv1 (g := w.heap.size) rfl rfl rfl hz.1 (made_plain (C := { C0 with da := ys }) rfl rfl rfl (fun w' hk' => ⟨rdg_nil _ _ _, byt_nil _, byt_nil _, byt_nil _, byt_nil _, byt_nil _, rdg_nil _ _ _, rdg_nil _ _ _, HBO.out.kp hk'⟩) hz.2.1 hz.2.2.1 hz.2.2.2)
end Go.Proofs.Ytnnbfhjbaagnkaa
