/-
  The law PayloadReturns, walked: it returns true for every input, and only adds memory of its own.
-/
import Derived.Test.YtpocehpejbnemaaDoorRPayDraw
import Derived.Test.YtpocehpejbnemaaDoorRPayAwake
import Derived.Test.YtpocehpejbnemaaDoorRChange
import Derived.Test.YtpocehpejbnemaaDoorRPayEqK
import Derived.Deep.Cut
import Derived.Deep.CutRange
namespace Go.Proofs.YtpocehpejbnemaaDoor
open Go.RowKit
set_option linter.unusedVariables false

/-- A raw payload lies at block g from its first cell on. -/
structure RwIn (w : World) (g : Nat) (t : Int) (q : Option Addr) (n d : Nat) : Prop where
  c0 : w.cell? ⟨g, 0, none⟩ = some (.int .i64 t)
  c1 : w.cell? ⟨g, 1, none⟩ = some (.bool false)
  c2 : w.cell? ⟨g, 2, none⟩ = some (.slice q n d)
  fr : ∀ j, w.frozen? ⟨g, j, none⟩ = false
theorem RwIn.lt {w : World} {g : Nat} {t : Int} {q : Option Addr} {n d : Nat} (h : RwIn w g t q n d) : g < w.heap.size := World.block_lt_of_cell? w _ h.c0
theorem RwIn.grown {w w' : World} {g : Nat} {t : Int} {q : Option Addr} {n d : Nat} {row : Option Nat} (h : RwIn w g t q n d) (hg : w.grownBy w' row) (hne : some g ≠ row) : RwIn w' g t q n d :=
  ⟨hg.cell h.c0 hne, hg.cell h.c1 hne, hg.cell h.c2 hne, fun j => (World.frozen?_of_block (a := ⟨g, j, none⟩) (hg.block g h.lt hne)).trans (h.fr j)⟩
theorem RwIn.below {w w' : World} {g : Nat} {t : Int} {q : Option Addr} {n d : Nat} (h : RwIn w g t q n d) (hb : Below w.heap.size w w') : RwIn w' g t q n d := h.grown (row := none) (grown_of_below hb none) (by simp)
theorem RwIn.new (w : World) (t : Int) (q : Option Addr) (n d : Nat) (T : TypeId) : RwIn (w.alloc (.cells #[.int .i64 t, .bool false, .slice q n d] T)) w.heap.size t q n d :=
  ⟨by go_simp, by go_simp, by go_simp, fun j => by go_simp⟩
theorem RwIn.set2 {w : World} {g : Nat} {t : Int} {q : Option Addr} {n d : Nat} (h : RwIn w g t q n d) (q' : Option Addr) (n' d' : Nat) : RwIn (w.setCell ⟨g, 2, none⟩ (.slice q' n' d')) g t q' n' d' := by
  obtain ⟨c0, c1, c2, fr⟩ := h
  exact ⟨by go_simp, by go_simp, by go_simp, fun j => by rw [World.frozen?_setCell]; exact fr j⟩
/-- Behind the draw. -/
structure S4 (w W : World) (k g : Nat) (x : Pv) (C : Pc) : Prop where
  p : PvIn W g x
  c : Cod w W k
  lt : k < g
  rd : PvRd W x C
  num : NumOk x
  vld : Vld x C
  k12 : Kind12 x.t
  b : Below w.heap.size w W
theorem S4.below {w W W' : World} {k g : Nat} {x : Pv} {C : Pc} (h : S4 w W k g x C) (hb : Below W.heap.size W W') : S4 w W' k g x C :=
  ⟨h.p.below hb, h.c.below hb, h.lt, h.rd.below hb, h.num, h.vld, h.k12, h.b.trans (hb.mono h.b.size)⟩
/-- The body that was written. -/
structure S5 (W : World) (g4 g5 : Nat) (x : Pv) (C : Pc) (q : Option Addr) (d : Nat) (L : List Int) : Prop where
  r : RwIn W g5 x.t q L.length d
  lt : g4 < g5
  y : Byt W q L.length d L
  l : L.length ≤ 8000
  e : parseE x.t L = 0
  s : ∀ y D, y.t = x.t → RdAs x.t L y D → sameV y D x C = true
theorem S5.below {W W' : World} {g4 g5 : Nat} {x : Pv} {C : Pc} {q : Option Addr} {d : Nat} {L : List Int} (h : S5 W g4 g5 x C q d L) (hb : Below W.heap.size W W') : S5 W' g4 g5 x C q d L :=
  ⟨h.r.below hb, h.lt, h.y.below hb, h.l, h.e, h.s⟩
/-- What Build returns of a drawn payload. -/
theorem S4.build {w W : World} {k g : Nat} {x : Pv} {C : Pc} (h : S4 w W k g x C) :
    Calls Tryd.prog 11 #[(.agg #[.int .i64 x.t, .slice x.pr.p x.pr.n x.pr.c, .int .i64 x.eg, .slice x.ed.p x.ed.n x.ed.c, .int .i64 x.ik, .slice x.id.p x.id.n x.id.c, .int .i64 x.am, .slice x.ad.p x.ad.n x.ad.c, .int .i64 x.np, .slice x.ns.p x.ns.n x.ns.c, .int .i64 x.nt, .slice x.nd.p x.nd.n x.nd.c, .int .i64 x.dp, .slice x.ds.p x.ds.n x.ds.c, .slice x.se.p x.se.n x.se.c, .slice x.da.p x.da.n x.da.c])] W fun e w' => ∃ q d L, e = .returned (.tuple #[.agg #[.int .i64 x.t, .bool false, .slice q L.length d], .int .i64 0]) ∧ S4 w (w'.alloc (.cells #[.int .i64 x.t, .bool false, .slice q L.length d] 43)) k g x C ∧ S5 (w'.alloc (.cells #[.int .i64 x.t, .bool false, .slice q L.length d] 43)) g w'.heap.size x C q d L := by
  obtain ⟨bE, bL, bS⟩ := vld_build x C W h.rd h.num h.vld h.k12
  have hxt : 1 ≤ x.t ∧ x.t ≤ 255 := by have := h.k12; unfold Kind12 at this; omega
  have hRE : rawE x.t (buildB x C).1 (buildB x C).2 = 0 := by unfold rawE; rw [if_neg (by omega), bE, if_neg (by simp), if_neg (by omega)]
  have hbp := build_parse x C W h.rd.rk (buildB x C).1 (by rw [← bE]) (by omega) h.k12
  have hb := pBuild_any x C W h.rd.rk bS
  rw [hRE] at hb
  refine hb.mono ?_
  rintro e w' ⟨hbl, ⟨-, q, d, rfl, hf⟩ | ⟨hne, -⟩⟩
  · have h1 := (Below.refl w'.heap.size w').alloc (Nat.le_refl _) (.cells #[.int .i64 x.t, .bool false, .slice q (buildB x C).1.length d] 43)
    refine ⟨q, d, _, rfl, (h.below hbl).below h1, ⟨RwIn.new _ _ _ _ _ _, ?_, hf.byt.below h1, bL, hbp.1, hbp.2⟩⟩
    have := h.p.lt
    have := hbl.size
    omega
  · exact absurd rfl hne

theorem Kind12.rng {t : Int} (h : Kind12 t) : 1 ≤ t ∧ t ≤ 255 := by unfold Kind12 at h; omega
/-- A payload that was read, in its own block. -/
structure S6 (W : World) (g : Nat) (t : Int) (xs : List Int) (y : Pv) (D : Pc) : Prop where
  p : PvIn W g y
  ty : y.t = t
  rk : PvRk W y D
  rd : RdAs t xs y D
theorem S6.below {W W' : World} {g : Nat} {t : Int} {xs : List Int} {y : Pv} {D : Pc} (h : S6 W g t xs y D) (hb : Below W.heap.size W W') : S6 W' g t xs y D :=
  ⟨h.p.below hb, h.ty, h.rk.below hb, h.rd⟩
/-- What Parse returns, put into a variable. -/
theorem parse_var (t : Int) (ht : Kind12 t) (p : Option Addr) (n c : Nat) (xs : List Int) (W : World) (h : Byt W p n c xs) (hn : n ≤ 1000000) (E : Int) (hE : parseE t xs = E) :
    Calls Tryd.prog 12 #[.agg #[.int .i64 t, .bool false, .slice p n c]] W fun e w' => ∃ y, e = .returned (.tuple #[(.agg #[.int .i64 y.t, .slice y.pr.p y.pr.n y.pr.c, .int .i64 y.eg, .slice y.ed.p y.ed.n y.ed.c, .int .i64 y.ik, .slice y.id.p y.id.n y.id.c, .int .i64 y.am, .slice y.ad.p y.ad.n y.ad.c, .int .i64 y.np, .slice y.ns.p y.ns.n y.ns.c, .int .i64 y.nt, .slice y.nd.p y.nd.n y.nd.c, .int .i64 y.dp, .slice y.ds.p y.ds.n y.ds.c, .slice y.se.p y.se.n y.se.c, .slice y.da.p y.da.n y.da.c]), .int .i64 E]) ∧ Below W.heap.size W (w'.alloc (.cells #[.int .i64 y.t, .slice y.pr.p y.pr.n y.pr.c, .int .i64 y.eg, .slice y.ed.p y.ed.n y.ed.c, .int .i64 y.ik, .slice y.id.p y.id.n y.id.c, .int .i64 y.am, .slice y.ad.p y.ad.n y.ad.c, .int .i64 y.np, .slice y.ns.p y.ns.n y.ns.c, .int .i64 y.nt, .slice y.nd.p y.nd.n y.nd.c, .int .i64 y.dp, .slice y.ds.p y.ds.n y.ds.c, .slice y.se.p y.se.n y.se.c, .slice y.da.p y.da.n y.da.c] 40)) ∧ (E = 0 → ∃ D, S6 (w'.alloc (.cells #[.int .i64 y.t, .slice y.pr.p y.pr.n y.pr.c, .int .i64 y.eg, .slice y.ed.p y.ed.n y.ed.c, .int .i64 y.ik, .slice y.id.p y.id.n y.id.c, .int .i64 y.am, .slice y.ad.p y.ad.n y.ad.c, .int .i64 y.np, .slice y.ns.p y.ns.n y.ns.c, .int .i64 y.nt, .slice y.nd.p y.nd.n y.nd.c, .int .i64 y.dp, .slice y.ds.p y.ds.n y.ds.c, .slice y.se.p y.se.n y.se.c, .slice y.da.p y.da.n y.da.c] 40)) w'.heap.size t xs y D) := by
  refine (pk_any t ht p n c xs false W h hn).mono ?_
  rintro e w' ⟨y, rfl, hb, hor⟩
  rw [hE] at hor ⊢
  have hal := (Below.refl w'.heap.size w').alloc (Nat.le_refl _) (.cells #[.int .i64 y.t, .slice y.pr.p y.pr.n y.pr.c, .int .i64 y.eg, .slice y.ed.p y.ed.n y.ed.c, .int .i64 y.ik, .slice y.id.p y.id.n y.id.c, .int .i64 y.am, .slice y.ad.p y.ad.n y.ad.c, .int .i64 y.np, .slice y.ns.p y.ns.n y.ns.c, .int .i64 y.nt, .slice y.nd.p y.nd.n y.nd.c, .int .i64 y.dp, .slice y.ds.p y.ds.n y.ds.c, .slice y.se.p y.se.n y.se.c, .slice y.da.p y.da.n y.da.c] 40)
  refine ⟨y, rfl, hb.alloc hb.size _, fun h0 => ?_⟩
  rcases hor with ⟨-, hyt, C, hC, hd⟩ | ⟨hne, -⟩
  · have e1 : { y with t := t } = y := by subst hyt; rfl
    have h1 := hC w' (Kpt.refl _ _)
    rw [e1] at h1
    exact ⟨C, PvIn.new w' y 40, hyt, h1.below hal, hd⟩
  · exact absurd h0 hne
/-- The changed body. -/
structure S9 (w W : World) (g5 : Nat) (t : Int) (q : Option Addr) (n d : Nat) (ys : List Int) : Prop where
  r : RwIn W g5 t q n d
  y : Byt W q n d ys
  l : n ≤ 8001
  b : Below w.heap.size w W
theorem S9.below {w W W' : World} {g5 : Nat} {t : Int} {q : Option Addr} {n d : Nat} {ys : List Int} (h : S9 w W g5 t q n d ys) (hb : Below W.heap.size W W') : S9 w W' g5 t q n d ys :=
  ⟨h.r.below hb, h.y.below hb, h.l, h.b.trans (hb.mono h.b.size)⟩
/-- What Change returns, stored into the raw payload. -/
theorem S5.change {w W : World} {k g4 g5 : Nat} {x : Pv} {C : Pc} {q : Option Addr} {d : Nat} {L : List Int} (h4 : S4 w W k g4 x C) (h5 : S5 W g4 g5 x C q d L) :
    Calls Tryd.prog 14 #[.pointer (some ⟨k, 0, none⟩), .slice q L.length d] W fun e w' => ∃ q' n' d' ys, e = .returned (.slice q' n' d') ∧ RwIn w' g5 x.t q L.length d ∧ S9 w (w'.setCell ⟨g5, 2, none⟩ (.slice q' n' d')) g5 x.t q' n' d' ys := by
  have hl := h5.l
  refine (change_bod w W k h4.c q L.length d L h5.y (by omega)).mono ?_
  rintro e w' ⟨q', n', d', ys, rfl, hbod, hn', hcod, hg⟩
  have hr : RwIn w' g5 x.t q L.length d := h5.r.grown hg (by have := h4.lt; have := h5.lt; simp; omega)
  have hr2 := hr.set2 q' n' d'
  have hb : Below w.heap.size w w' := h4.b.grown hg h4.b.size (fun j e => by cases e; exact h4.c.base)
  refine ⟨q', n', d', ys, rfl, hr, hr2, ?_, by omega, hb.setCell ?_ _⟩
  · exact (hbod.grown (grown_set w' g5 2 _) (OffB.low h5.r.lt)).byt
  · have := h5.lt; have := h4.lt; have := h4.c.base; show w.heap.size ≤ g5; omega
/-- What Build makes of a payload that was read, put into a variable. -/
structure S13 (W : World) (g : Nat) (t : Int) (y : Pv) (D : Pc) (q : Option Addr) (n d : Nat) (L : List Int) : Prop where
  r : RwIn W g t q n d
  by_ : Byt W q n d L
  e : parseE t L = 0
  s : ∀ z F, z.t = t → RdAs t L z F → sameV y D z F = true
theorem S13.below {W W' : World} {g : Nat} {t : Int} {y : Pv} {D : Pc} {q : Option Addr} {n d : Nat} {L : List Int} (h : S13 W g t y D q n d L) (hb : Below W.heap.size W W') : S13 W' g t y D q n d L :=
  ⟨h.r.below hb, h.by_.below hb, h.e, h.s⟩
theorem S6.build {w W : World} {g5 g9 : Nat} {t : Int} {q : Option Addr} {n d : Nat} {ys : List Int} {y : Pv} {D : Pc} (h9 : S9 w W g5 t q n d ys) (h : S6 W g9 t ys y D) (hE : parseE t ys = 0) (ht : Kind12 t) :
    Calls Tryd.prog 11 #[(.agg #[.int .i64 y.t, .slice y.pr.p y.pr.n y.pr.c, .int .i64 y.eg, .slice y.ed.p y.ed.n y.ed.c, .int .i64 y.ik, .slice y.id.p y.id.n y.id.c, .int .i64 y.am, .slice y.ad.p y.ad.n y.ad.c, .int .i64 y.np, .slice y.ns.p y.ns.n y.ns.c, .int .i64 y.nt, .slice y.nd.p y.nd.n y.nd.c, .int .i64 y.dp, .slice y.ds.p y.ds.n y.ds.c, .slice y.se.p y.se.n y.se.c, .slice y.da.p y.da.n y.da.c])] W fun e w' => ∃ q2 d2 L, e = .returned (.tuple #[.agg #[.int .i64 t, .bool false, .slice q2 n d2], .int .i64 0]) ∧ S9 w (w'.alloc (.cells #[.int .i64 t, .bool false, .slice q2 n d2] 43)) g5 t q n d ys ∧ S6 (w'.alloc (.cells #[.int .i64 t, .bool false, .slice q2 n d2] 43)) g9 t ys y D ∧ S13 (w'.alloc (.cells #[.int .i64 t, .bool false, .slice q2 n d2] 43)) w'.heap.size t y D q2 n d2 L := by
  obtain rfl := h.ty
  have hr := ht.rng
  have hl := h9.l
  have hyl := h9.y.len
  have hsz := rd_sz y.t ys h9.y.rng (by omega) y D W h.rk h.rd
  obtain ⟨bE, bL⟩ := parse_back ys h9.y.rng y D W h.rk hE h.rd ht
  have hRE : rawE y.t (buildB y D).1 (buildB y D).2 = 0 := by unfold rawE; rw [if_neg (by omega), bE, if_neg (by simp), if_neg (by omega)]
  have hbp := build_parse y D W h.rk (buildB y D).1 (by rw [← bE]) (by omega) ht
  have hb := pBuild_any y D W h.rk hsz
  rw [hRE] at hb
  have hln : (buildB y D).1.length = n := by omega
  refine hb.mono ?_
  rintro e w' ⟨hbl, ⟨-, q2, d2, rfl, hf⟩ | ⟨hne, -⟩⟩
  · have hy := hf.byt
    rw [hln] at hy ⊢
    have h1 := (Below.refl w'.heap.size w').alloc (Nat.le_refl _) (.cells #[.int .i64 y.t, .bool false, .slice q2 n d2] 43)
    exact ⟨q2, d2, _, rfl, (h9.below hbl).below h1, (h.below hbl).below h1, ⟨RwIn.new _ _ _ _ _ _, hy.below h1, hbp.1, fun z F hz hd => by rw [sameV_symm]; exact hbp.2 z F hz hd⟩⟩
  · exact absurd rfl hne

set_option maxHeartbeats 6400000 in
set_option maxRecDepth 100000 in
theorem payloadReturns_walk (p0 : Option Addr) (n0 c0 : Nat) (xs0 : List Int) (w : World) (h0 : Byt w p0 n0 c0 xs0) (r0 : c0 ≤ 140737488351232) (hK : KindsAt w) :
    Calls Tryd.prog 3 #[.slice p0 n0 c0] w fun e w' => e = .returned (.bool true) ∧ Below w.heap.size w w' := by
  have HA := hidden (awake06_any w)
  have H0 := hidden h0
  have HKD := hidden (fun W (hW : Below w.heap.size w W) => hK.below hW)
  have hpos : 0 < w.heap.size := World.block_lt_of_cell? w _ (hK 0 (by omega))
  clear h0 hK
  go_enter Tryd.func3, Tryd.ntmps3
  go_upto_region 4 with (first
    | (go_at_call 8; (with_reducible refine (HA.out).mono ?_); rintro e w1 ⟨rfl, hb⟩; have HB1 := hidden hb; have HNW := hidden (show Calls Tryd.prog 9 #[.slice p0 n0 c0, .int .i64 200] w1 _ from new_any w p0 n0 c0 xs0 w1 H0.out hb 200 (by omega)); clear hb)
    | (go_at_call 9; (with_reducible refine (HNW.out).mono ?_); rintro e w2 ⟨rfl, hcod, hbel⟩; have HC := hidden hcod; have HB2 := hidden (HB1.out.trans (hbel.mono HB1.out.size)); clear hcod hbel HNW)
    | fail)
  have hk := HC.out.lt
  have hkb := HC.out.base
  generalize w1.heap.size = k at *
  have HDR := hidden (draw6_any w w2 k HC.out (by omega) (HKD.out w2 HB2.out))
  go_cut [4] from 19 to 20 (fun p wx => ∃ g x C, p = .pointer (some ⟨g, 0, none⟩) ∧ Hid (S4 w wx k g x C))
  case first => as_aux_lemma =>
    go_wp2_with (first
      | (go_at_call 10; (with_reducible refine (HDR.out).mono ?_); rintro e w3 ⟨K, hK12, x, C, rfl, ht, hp, hrow, hl, hn2, hs2, hts, hc, hg, hnum, hv⟩; subst ht; have hb3 := HB2.out.grown hg HB2.out.size (fun j e => by cases e; exact hkb); have hal := (Below.refl w3.heap.size w3).alloc (Nat.le_refl _) (.cells #[.int .i64 x.t, .slice x.pr.p x.pr.n x.pr.c, .int .i64 x.eg, .slice x.ed.p x.ed.n x.ed.c, .int .i64 x.ik, .slice x.id.p x.id.n x.id.c, .int .i64 x.am, .slice x.ad.p x.ad.n x.ad.c, .int .i64 x.np, .slice x.ns.p x.ns.n x.ns.c, .int .i64 x.nt, .slice x.nd.p x.nd.n x.nd.c, .int .i64 x.dp, .slice x.ds.p x.ds.n x.ds.c, .slice x.se.p x.se.n x.se.c, .slice x.da.p x.da.n x.da.c] 40); have HS := hidden (show S4 w (w3.alloc (.cells #[.int .i64 x.t, .slice x.pr.p x.pr.n x.pr.c, .int .i64 x.eg, .slice x.ed.p x.ed.n x.ed.c, .int .i64 x.ik, .slice x.id.p x.id.n x.id.c, .int .i64 x.am, .slice x.ad.p x.ad.n x.ad.c, .int .i64 x.np, .slice x.ns.p x.ns.n x.ns.c, .int .i64 x.nt, .slice x.nd.p x.nd.n x.nd.c, .int .i64 x.dp, .slice x.ds.p x.ds.n x.ds.c, .slice x.se.p x.se.n x.se.c, .slice x.da.p x.da.n x.da.c] 40)) k w3.heap.size x C from ⟨PvIn.new w3 x 40, hc.below hal, hc.lt, hp.rd.below hal, hnum, hv, hK12, hb3.trans (hal.mono hb3.size)⟩); clear hp hrow hl hn2 hs2 hts hc hg hnum hv hK12 HDR hb3 hal)
      | fail)
    go_meet
    case rel => exact ⟨w3.heap.size, x, C, rfl, HS⟩
  case rest =>
    obtain ⟨g4, x, C, rfl, HS⟩ := hcut
    clear HDR HC HB2 HB1
    have HBU := hidden (HS.out.build)
    obtain ⟨a0, a1, a2, a3, a4, a5, a6, a7, a8, a9, a10, a11, a12, a13, a14, a15, af⟩ := HS.out.p
    go_upto_region 5 with fail
    go_cut [5, 6] from 21 to 25 (fun p e wx => ∃ g5 q d L, p = .pointer (some ⟨g5, 0, none⟩) ∧ e = .int .i64 0 ∧ Hid (S4 w wx k g4 x C) ∧ Hid (S5 wx g4 g5 x C q d L))
    case first => as_aux_lemma =>
      go_wp2_with (first
        | (go_at_call 11; (with_reducible refine (HBU.out).mono ?_); rintro e w5 ⟨q, d, L, rfl, h4, h5⟩; have H4 := hidden h4; have H5 := hidden h5; clear h4 h5)
        | fail)
      go_meet
      case rel => exact ⟨w5.heap.size, q, d, L, rfl, rfl, H4, H5⟩
    case rest =>
      obtain ⟨g5, q, d, L, rfl, rfl, H4, H5⟩ := hcut
      clear a0 a1 a2 a3 a4 a5 a6 a7 a8 a9 a10 a11 a12 a13 a14 a15 af HBU HS
      obtain ⟨r0, r1, r2, rf⟩ := H5.out.r
      have HPA := hidden (parse_var x.t H4.out.k12 q L.length d L _ H5.out.y (by have := H5.out.l; omega) 0 H5.out.e)
      go_upto_region 6 with fail
      go_cut [7, 8] from 26 to 30 (fun p e wx => ∃ g7 y D, p = .pointer (some ⟨g7, 0, none⟩) ∧ e = .int .i64 0 ∧ Hid (S4 w wx k g4 x C) ∧ Hid (S5 wx g4 g5 x C q d L) ∧ Hid (S6 wx g7 x.t L y D))
      case first => as_aux_lemma =>
        go_wp2_with (first
          | (go_at_call 12; (with_reducible refine (HPA.out).mono ?_); rintro e w7 ⟨y, rfl, hb7, h6⟩; obtain ⟨D, h6⟩ := h6 rfl; have H4' := hidden (H4.out.below hb7); have H5' := hidden (H5.out.below hb7); have H6 := hidden h6; clear h6 hb7)
          | fail)
        go_meet
        case rel => exact ⟨w7.heap.size, y, D, rfl, rfl, H4', H5', H6⟩
      case rest =>
        clear H4 H5 HPA r0 r1 r2 rf
        obtain ⟨g7, y, D, rfl, rfl, H4, H5, H6⟩ := hcut
        obtain ⟨a0, a1, a2, a3, a4, a5, a6, a7, a8, a9, a10, a11, a12, a13, a14, a15, af⟩ := H4.out.p
        obtain ⟨b0, b1, b2, b3, b4, b5, b6, b7, b8, b9, b10, b11, b12, b13, b14, b15, bf⟩ := H6.out.p
        have HSA := hidden (krsame_any y x D C _ H6.out.rk H4.out.rd.rk)
        rw [H5.out.s y D H6.out.ty H6.out.rd] at HSA
        go_upto_region 7 with fail
        go_cut [42] from 31 to 42 (fun v wx => v = .bool false ∧ Hid (S4 w wx k g4 x C) ∧ Hid (S5 wx g4 g5 x C q d L))
        case first => as_aux_lemma =>
          go_wp2_with (first
            | (go_at_call 13; (with_reducible refine (HSA.out).mono ?_); rintro e w8 ⟨rfl, hb8⟩; have H4' := hidden (H4.out.below hb8); have H5' := hidden (H5.out.below hb8); clear hb8)
            | fail)
          go_meet
          case rel => exact ⟨rfl, H4', H5'⟩
        case rest =>
          clear H4 H5 H6 HSA a0 a1 a2 a3 a4 a5 a6 a7 a8 a9 a10 a11 a12 a13 a14 a15 af b0 b1 b2 b3 b4 b5 b6 b7 b8 b9 b10 b11 b12 b13 b14 b15 bf
          obtain ⟨rfl, H4, H5⟩ := hcut
          have HCH := hidden (S5.change H4.out H5.out)
          obtain ⟨r0, r1, r2, rf⟩ := H5.out.r
          have hk12 := H4.out.k12
          go_upto_region 9 with fail
          go_cut [] from 43 to 47 (fun wx => ∃ q' n' d' ys, Hid (S9 w wx g5 x.t q' n' d' ys))
          case first => as_aux_lemma =>
            go_wp2_with (first
              | (go_at_call 14; (with_reducible refine (HCH.out).mono ?_); rintro e w9 ⟨q', n', d', ys, rfl, hr9, h9⟩; obtain ⟨s0, s1, s2, sf⟩ := hr9; have H9 := hidden h9; clear h9)
              | fail)
            go_meet
            case rel => exact ⟨q', n', d', ys, H9⟩
          case rest =>
            clear H4 H5 HCH r0 r1 r2 rf
            obtain ⟨q', n', d', ys, H9⟩ := hcut
            generalize x.t = t at *
            obtain ⟨r0, r1, r2, rf⟩ := H9.out.r
            obtain ⟨E, hE⟩ : ∃ E, parseE t ys = E := ⟨_, rfl⟩
            have HPA := hidden (parse_var t hk12 q' n' d' ys _ H9.out.y (by have := H9.out.l; omega) E hE)
            go_upto_region 10 with fail
            go_cut [9, 10] from 48 to 52 (fun p e wx => ∃ g9 y, p = .pointer (some ⟨g9, 0, none⟩) ∧ e = .int .i64 E ∧ Hid (S9 w wx g5 t q' n' d' ys) ∧ Hid (E = 0 → ∃ D, S6 wx g9 t ys y D))
            case first => as_aux_lemma =>
              go_wp2_with (first
                | (go_at_call 12; (with_reducible refine (HPA.out).mono ?_); rintro e w10 ⟨y, rfl, hb10, h6⟩; have H9' := hidden (H9.out.below hb10); have H6 := hidden h6; clear h6 hb10)
                | fail)
              go_meet
              case rel => exact ⟨w10.heap.size, y, rfl, rfl, H9', H6⟩
            case rest =>
              clear H9 HPA r0 r1 r2 rf
              obtain ⟨g9, y, rfl, rfl, H9, H6⟩ := hcut
              by_cases h0 : E = 0
              rotate_left
              · have e0 : (E != 0) = true := by simpa using h0
                go_wp2_with fail
                go_ret
                exact ⟨rfl, H9.out.b⟩
              subst h0
              obtain ⟨D, h6⟩ := H6.out rfl
              clear H6
              have H6 := hidden h6
              obtain ⟨b0, b1, b2, b3, b4, b5, b6, b7, b8, b9, b10, b11, b12, b13, b14, b15, bf⟩ := h6.p
              have HBU := hidden (S6.build H9.out h6 hE hk12)
              clear h6
              go_upto_region 13 with fail
              go_cut [11, 12] from 55 to 59 (fun p e wx => ∃ g11 q2 d2 L2, p = .pointer (some ⟨g11, 0, none⟩) ∧ e = .int .i64 0 ∧ Hid (S9 w wx g5 t q' n' d' ys) ∧ Hid (S6 wx g9 t ys y D) ∧ Hid (S13 wx g11 t y D q2 n' d2 L2))
              case first => as_aux_lemma =>
                go_wp2_with (first
                  | (go_at_call 11; (with_reducible refine (HBU.out).mono ?_); rintro e w13 ⟨q2, d2, L2, rfl, h9, h6, h13⟩; have H9' := hidden h9; have H6' := hidden h6; have H13 := hidden h13; clear h9 h6 h13)
                  | fail)
                go_meet
                case rel => exact ⟨w13.heap.size, q2, d2, L2, rfl, rfl, H9', H6', H13⟩
              case rest =>
                clear H9 H6 HBU b0 b1 b2 b3 b4 b5 b6 b7 b8 b9 b10 b11 b12 b13 b14 b15 bf
                obtain ⟨g11, q2, d2, L2, rfl, rfl, H9, H6, H13⟩ := hcut
                obtain ⟨r0, r1, r2, rf⟩ := H13.out.r
                have HPA := hidden (parse_var t hk12 q2 n' d2 L2 _ H13.out.by_ (by have := H9.out.l; omega) 0 H13.out.e)
                go_upto_region 14 with fail
                go_cut [13, 14] from 60 to 64 (fun p e wx => ∃ g13 z F, p = .pointer (some ⟨g13, 0, none⟩) ∧ e = .int .i64 0 ∧ Hid (S9 w wx g5 t q' n' d' ys) ∧ Hid (S6 wx g9 t ys y D) ∧ Hid (S13 wx g11 t y D q2 n' d2 L2) ∧ Hid (S6 wx g13 t L2 z F))
                case first => as_aux_lemma =>
                  go_wp2_with (first
                    | (go_at_call 12; (with_reducible refine (HPA.out).mono ?_); rintro e w14 ⟨z, rfl, hb14, h14⟩; obtain ⟨F, h14⟩ := h14 rfl; have H9' := hidden (H9.out.below hb14); have H6' := hidden (H6.out.below hb14); have H13' := hidden (H13.out.below hb14); have H14 := hidden h14; clear h14 hb14)
                    | fail)
                  go_meet
                  case rel => exact ⟨w14.heap.size, z, F, rfl, rfl, H9', H6', H13', H14⟩
                case rest =>
                  clear H9 H6 H13 HPA r0 r1 r2 rf
                  obtain ⟨g13, z, F, rfl, rfl, H9, H6, H13, H14⟩ := hcut
                  obtain ⟨a0, a1, a2, a3, a4, a5, a6, a7, a8, a9, a10, a11, a12, a13, a14, a15, af⟩ := H6.out.p
                  obtain ⟨b0, b1, b2, b3, b4, b5, b6, b7, b8, b9, b10, b11, b12, b13, b14, b15, bf⟩ := H14.out.p
                  obtain ⟨r0, r1, r2, rf⟩ := H13.out.r
                  obtain ⟨s0, s1, s2, sf⟩ := H9.out.r
                  have HSA := hidden (krsame_any y z D F _ H6.out.rk H14.out.rk)
                  rw [H13.out.s z F H14.out.ty H14.out.rd] at HSA
                  have HB := hidden H9.out.b
                  clear H9 H6 H13 H14
                  go_wp2_with (first
                    | (go_at_call 13; (with_reducible refine (HSA.out).mono ?_); rintro e w15 ⟨rfl, hb15⟩; have HB' := hidden (HB.out.trans (hb15.mono HB.out.size)); clear hb15)
                    | fail)
                  go_ret
                  exact ⟨rfl, HB'.out⟩
end Go.Proofs.YtpocehpejbnemaaDoor
