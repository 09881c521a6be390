/-
  Package payload's Parse, given what the reader of the type returns.
  Returning a header that lies in a block of the call's own.
  The header that a list of choices makes: it passes Check.
  A map of the call's own from ints to bools that holds just those of a list.
  Types of payloads, and whether two lists of payloads are the same.
  What the document's own Build of chains returns: the bytes of the payloads, or the first error.
  What chain.Build returns: the bytes of the payloads, or the first error.
-/
import Derived.Test.YtnbkffehhahckaaGreatJZ5
import Derived.Test.YtnbkffehhahckaaGreatJZ16
import Derived.Test.YtnbkffehhahckaaGreatJZ19
import Derived.Test.YtnbkffehhahckaaGreatJZ3
import Derived.Test.YtnbkffehhahckaaGreatJZ1
import Derived.Maps.OwnOps
import Derived.Maps.Views
import Derived.Deep.QuietTactic
import Derived.BigQuiet
import Derived.Deep.CutBlock
import Derived.Deep.RegionHeld3
import Derived.Deep.RegionLaw
namespace Go.Proofs.YtnbkffehhahckaaGreat
open Go.RowKit
set_option linter.unusedVariables false
structure Gd where
  ok : Nat → World → Pv → Prop
  keep : ∀ {base : Nat} {w w' : World} {x : Pv}, ok base w x → (∀ a v, base ≤ a.block → w.cell? a = some v → w'.cell? a = some v) → ok base w' x
  mono : ∀ {base base' : Nat} {w : World} {x : Pv}, ok base w x → base' ≤ base → ok base' w x
  ty : ∀ {base : Nat} {w : World} {x : Pv} (z : Int), ok base w x → ok base w { x with t := z }
theorem Frs.keep {w w' : World} {base : Nat} {p : Option Addr} {n c : Nat} {xs : List Int} (h : Frs w base p n c xs) (hk : ∀ a v, base ≤ a.block → w.cell? a = some v → w'.cell? a = some v) : Frs w' base p n c xs :=
  ⟨⟨h.byt.len, h.byt.cap, h.byt.big, h.byt.rng, fun hn => by
    obtain ⟨b, o, e, hc⟩ := h.byt.mem hn
    obtain ⟨b', o', e', hb⟩ := h.own (by have := h.byt.len; omega)
    rw [e] at e'
    injection e' with e'
    injection e' with e1 e2
    subst e1
    exact ⟨b, o, e, fun i hi => hk _ _ hb (hc i hi)⟩⟩, h.own⟩
def gdData (xs : List Int) : Gd where
  ok base w x := FrV w base x.da xs
  keep h hk := Frs.keep h hk
  mono h hb := Frs.mono h hb
  ty _ h := h
def gdIdent (xs : List Int) : Gd where
  ok base w x := x.ik = nthB xs 0 ∧ FrV w base x.id (xs.drop 4)
  keep h hk := ⟨h.1, Frs.keep h.2 hk⟩
  mono h hb := ⟨h.1, Frs.mono h.2 hb⟩
  ty _ h := h
def ParsedV (w : World) (k E : Int) (G : Gd) (e : Ending) (w' : World) : Prop := ∃ x : Pv, e = .returned (.tuple #[(.agg #[.int .i64 x.t, .slice x.pr.p x.pr.n x.pr.c, .int .i64 x.eg, .slice x.ed.p x.ed.n x.ed.c, .int .i64 x.ik, .slice x.id.p x.id.n x.id.c, .int .i64 x.am, .slice x.ad.p x.ad.n x.ad.c, .int .i64 x.np, .slice x.ns.p x.ns.n x.ns.c, .int .i64 x.nt, .slice x.nd.p x.nd.n x.nd.c, .int .i64 x.dp, .slice x.ds.p x.ds.n x.ds.c, .slice x.se.p x.se.n x.se.c, .slice x.da.p x.da.n x.da.c]), .int .i64 E]) ∧ Below w.heap.size w w' ∧ ((E = 0 ∧ x.t = k ∧ G.ok w.heap.size w' x) ∨ (E ≠ 0 ∧ x = zeroP))
end Go.Proofs.YtnbkffehhahckaaGreat

namespace Go.Proofs.YtnbkffehhahckaaGreat
open Go.RowKit
set_option linter.unusedVariables false
theorem load_hdr {w : World} {g o : Nat} {i r n x f m : Int} (h : HdrIn w g o i r n x f m) : (loadVar 27 ⟨g, o, none⟩).run Tryz.prog w = .ok (.agg #[.int .u64 i, .int .u64 r, .int .i64 n, .int .i64 x, .int .i64 f, .int .u32 m]) w := by
  obtain ⟨c0, c1, c2, c3, c4, c5, fr⟩ := h
  simp [loadVar, go_sem, c0, c1, c2, c3, c4, c5, Result.andThen]
theorem ret_hdr {fn : Func} {R : Ending → World → Prop} {a : Act} {w : World} {p : Nat} {g : Nat} {i r n x f m : Int} (h : fn.results = #[.cell p 27]) (hp : a.tmps.getD p undef = .pointer (some ⟨g, 0, none⟩)) (hd : a.defers = [])
    (hh : HdrIn w g 0 i r n x f m) (hR : R (.returned (.agg #[.int .u64 i, .int .u64 r, .int .i64 n, .int .i64 x, .int .i64 f, .int .u32 m])) w) : bodyPost Tryz.prog fn R .ret a w := by
  refine bodyPost_ret (v := .agg #[.int .u64 i, .int .u64 r, .int .i64 n, .int .i64 x, .int .i64 f, .int .u32 m]) ?_ hd hR
  rw [Array.getD_eq_getD_getElem?] at hp
  simp [results, h, hp, asAddr, load_hdr hh]
theorem ret_hdr2 {fn : Func} {R : Ending → World → Prop} {a : Act} {w : World} {p u : Nat} {g : Nat} {i r n x f m : Int} {v : Value} (h : fn.results = #[.cell p 27, .tmp u]) (hp : a.tmps.getD p undef = .pointer (some ⟨g, 0, none⟩)) (hu : a.tmps.getD u undef = v) (hd : a.defers = [])
    (hh : HdrIn w g 0 i r n x f m) (hR : R (.returned (.tuple #[.agg #[.int .u64 i, .int .u64 r, .int .i64 n, .int .i64 x, .int .i64 f, .int .u32 m], v])) w) : bodyPost Tryz.prog fn R .ret a w := by
  refine bodyPost_ret (v := .tuple #[.agg #[.int .u64 i, .int .u64 r, .int .i64 n, .int .i64 x, .int .i64 f, .int .u32 m], v]) ?_ hd hR
  rw [results_cell_tmp h]
  simp only [hp]
  simp [Result.andThen, hu, asAddr, load_hdr hh]
end Go.Proofs.YtnbkffehhahckaaGreat

namespace Go.Proofs.YtnbkffehhahckaaGreat
open Go.RowKit
set_option linter.unusedVariables false
structure Good (i r n x f m : Int) : Prop where
  gi : 1 ≤ i ∧ i ≤ 18446744073709551615
  gr : 0 ≤ r ∧ r ≤ 18446744073709551615
  gn : n = 0
  gx : 34 ≤ x ∧ x ≤ 37
  gf : f = 8 ∨ f = 32 ∨ f = 40 ∨ f = 0
  gm : 0 ≤ m ∧ m ≤ 255
  first : x = 34 → m = 0
  later : x ≠ 34 → r ≠ 0
theorem stored_hdr {w : World} {g : Nat} {i r n x f m i' r' n' x' f' m' : Int} (h : HdrIn w g 0 i r n x f m) :
    HdrIn ((((((w.setCell ⟨g, 0, none⟩ (.int .u64 i')).setCell ⟨g, 1, none⟩ (.int .u64 r')).setCell ⟨g, 2, none⟩ (.int .i64 n')).setCell ⟨g, 3, none⟩ (.int .i64 x')).setCell ⟨g, 4, none⟩ (.int .i64 f')).setCell ⟨g, 5, none⟩ (.int .u32 m')) g 0 i' r' n' x' f' m' :=
  (((((h.set0 _).set1 _).set2 _).set3 _).set4 _).set5 _
theorem HdrIn.set_ne {w : World} {g o : Nat} {i r n x f m : Int} (h : HdrIn w g o i r n x f m) (g' j : Nat) (v : Value) (hne : g ≠ g') : HdrIn (w.setCell ⟨g', j, none⟩ v) g o i r n x f m :=
  h.grown (grown_set w g' j v) (by simp; exact hne)
set_option maxHeartbeats 800000 in
theorem header_any (W w : World) (k : Nat) (h : Cod W w k) :
    Calls Tryz.prog 12 #[.pointer (some ⟨k, 0, none⟩)] w fun e w' => ∃ i r n x f m : Int, e = .returned (.agg #[.int .u64 i, .int .u64 r, .int .i64 n, .int .i64 x, .int .i64 f, .int .u32 m]) ∧ Good i r n x f m ∧ Cod W w' k ∧ w.grownBy w' (some k) := by
  have hk := h.lt
  have hbase := h.base
  have H := hidden (h.alloc (.cells #[.int .u64 0, .int .u64 0, .int .i64 0, .int .i64 0, .int .i64 0, .int .u32 0] 27))
  clear h
  go_enter Tryz.func12, Tryz.ntmps12
  go_wp2_with (go_at_call 25; refine (word_any W _ k H.out).mono ?_)
  rintro e w1 ⟨i, rfl, i0, i1, hc, hg⟩
  have HC := hidden hc
  have HR := hidden ((HdrIn.new w 0 0 0 0 0 0 27).grown hg (by simp; omega))
  have HG := hidden (grown_trans (World.grownBy_alloc w _ _) hg)
  clear hc hg H
  go_wp2_with (go_at_call 25; refine (word_any W _ k HC.out).mono ?_)
  rintro e w2 ⟨r, rfl, r0, r1, hc, hg⟩
  have HC2 := hidden hc
  have HR2 := hidden (HR.out.grown hg (by simp; omega))
  have HG2 := hidden (grown_trans HG.out hg)
  clear hc hg HC HR HG
  go_wp2_with (go_at_call 13; refine (next_any W _ k HC2.out _ ?_).mono ?_; omega)
  rintro e w3 ⟨x, rfl, x0, x1, hc, hg⟩
  have hk3 := hc.lt
  have HC3 := hidden (hc.alloc (.cells ((([8, 32, 40, 0] : List Int).map (Value.int .i64)).toArray) 3))
  have HR3 := hidden (HR2.out.grown hg (by simp; omega))
  have HG3 := hidden (grown_trans HG2.out hg)
  clear hc hg HC2 HR2 HG2
  go_wp2_with (go_at_call 13; refine (next_any W _ k HC3.out _ ?_).mono ?_; omega)
  rintro e w4 ⟨j, rfl, j0, j1, hc, hg⟩
  obtain ⟨j, rfl⟩ := Int.eq_ofNat_of_zero_le j0
  have hcell := hg.cell (ints_at w3 [8, 32, 40, 0] 3 j (by simp; omega)) (by simp; omega)
  have hf : List.getD [8, 32, 40, 0] j (0 : Int) = 8 ∨ List.getD [8, 32, 40, 0] j (0 : Int) = 32 ∨ List.getD [8, 32, 40, 0] j (0 : Int) = 40 ∨ List.getD [8, 32, 40, 0] j (0 : Int) = 0 := by
    have : j = 0 ∨ j = 1 ∨ j = 2 ∨ j = 3 := by omega
    rcases this with rfl | rfl | rfl | rfl <;> simp
  generalize List.getD [8, 32, 40, 0] j (0 : Int) = f at hcell hf
  have HF := hidden hf
  have HC4 := hidden hc
  have hh := ((HR3.out.grown (World.grownBy_alloc w3 _ none) (by simp)).grown hg (by simp; omega))
  have HR4 := hidden hh
  obtain ⟨q0, q1, q2, q3, q4, q5, qf⟩ := hh
  have HG4 := hidden (grown_trans (grown_trans HG3.out (World.grownBy_alloc w3 _ _)) hg)
  have hw4 := HR4.out.lt
  have hk4 := hc.lt
  have hs4 := HG4.out.size
  clear hc hg HC3 HR3 HG3 hf
  by_cases hx : x = 0
  · subst hx
    go_wp2
    all_goals refine ret_hdr (g := w.heap.size) rfl rfl rfl (HdrIn.alloc (stored_hdr HR4.out) _) ?_
    all_goals have hf := HF.out
    all_goals simp at *
    all_goals refine ⟨_, _, _, _, _, _, ⟨rfl, rfl, rfl, rfl, rfl, rfl⟩, ⟨by omega, by omega, by omega, by omega, by omega, by omega, by omega, by omega⟩, ?_, ?_⟩
    all_goals repeat' (first | with_reducible exact HC4.out | with_reducible exact HG4.out | (with_reducible refine Cod.alloc ?_ _) | (with_reducible refine Cod.set ?_ _ _ _ (by omega) (by omega)) | (with_reducible refine grown_alloc_new ?_ _) | (with_reducible refine grown_set_new ?_ _ _ _ (by omega)))
  · have ex : (34 + x == 34) = false := by simp; omega
    go_wp2_with (go_at_call 13; refine (next_any W _ k (HC4.out.alloc _) _ ?_).mono ?_; omega)
    rintro e w5 ⟨m, rfl, m0, m1, hc, hg⟩
    have hh := (HdrIn.new w4 i r 0 (34 + x) f 0 27).grown hg (by simp; omega)
    have hr := (HR4.out.alloc _).grown hg (by simp; omega)
    have HC5 := hidden hc
    have HG5 := hidden (grown_trans (grown_alloc_new HG4.out _) hg)
    have hw5 := hg.size
    simp at hw5
    clear q0 q1 q2 q3 q4 q5 qf HC4 HR4 HG4 hc hg hcell
    have HR5 := hidden hr
    obtain ⟨q0, q1, q2, q3, q4, q5, qf⟩ := hr
    obtain ⟨p0, p1, p2, p3, p4, p5, pf⟩ := hh
    go_wp2
    all_goals refine ret_hdr (g := w.heap.size) rfl rfl rfl (stored_hdr (i := 0) (r := 0) (n := 0) (x := 0) (f := 0) (m := 0) (by repeat' (first | with_reducible exact HR5.out | (with_reducible refine HdrIn.set_ne ?_ _ _ _ (by omega))))) ?_
    all_goals have hf := HF.out
    all_goals simp at *
    all_goals refine ⟨_, _, _, _, _, _, ⟨rfl, rfl, rfl, rfl, rfl, rfl⟩, ⟨by omega, by omega, by omega, by omega, by omega, by omega, by omega, by omega⟩, ?_, ?_⟩
    all_goals repeat' (first | with_reducible exact HC5.out | with_reducible exact HG5.out | (with_reducible refine Cod.alloc ?_ _) | (with_reducible refine Cod.set ?_ _ _ _ (by omega) (by omega)) | (with_reducible refine grown_alloc_new ?_ _) | (with_reducible refine grown_set_new ?_ _ _ _ (by omega)))
end Go.Proofs.YtnbkffehhahckaaGreat

namespace Go.Proofs.YtnbkffehhahckaaGreat
open Go.RowKit
open Go.Maps (Keyed IsMap)
set_option linter.unusedVariables false
set_option maxRecDepth 100000
theorem lawInt : Keyed Tryz.prog 3 := Maps.int_keyed Tryz.underlying3
theorem key_int (t : Int) (h : IntR t) : keyOf Tryz.prog 3 (.int .i64 t) = some (.int .i64 t) := Maps.keyOf_int_mk Tryz.underlying3 (WalkArith.wf_i64 (by unfold IntR at h; omega))
structure FndD (D : DataW Unit) (ts : List Int) : Prop where
  map : IsMap D
  at_ : ∀ (t : Int), IntR t → D.atKey (.int .i64 t) (.lit (.bool false)) = .lit (.bool (decide (t ∈ ts)))
def Fnd (w : World) (b : Nat) (ts : List Int) : Prop := ∃ D : DataW Unit, w.ownsMap Tryz.prog 3 (plainElem Tryz.prog 4) b ts.length D ∧ FndD D ts
theorem Fnd.made (w : World) : Fnd (w.alloc (.map #[] 0)) w.heap.size [] := ⟨_, World.ownsMap_made _ _ _ _, ⟨[], rfl⟩, fun t h => by simp [DataW.atKey]⟩
theorem Fnd.lt {w : World} {b : Nat} {ts : List Int} (h : Fnd w b ts) : b < w.heap.size := by
  obtain ⟨D, h1, _⟩ := h
  exact h1.lt
theorem Fnd.grown {w w' : World} {b : Nat} {ts : List Int} {row : Option Nat} (h : Fnd w b ts) (hg : w.grownBy w' row) (hne : some b ≠ row) : Fnd w' b ts := by
  obtain ⟨D, h1, h2⟩ := h
  exact ⟨D, h1.kept hg hne, h2⟩
theorem Fnd.below {w w' : World} {b : Nat} {ts : List Int} (h : Fnd w b ts) (hb : Below w.heap.size w w') : Fnd w' b ts := h.grown (row := none) (grown_of_below hb none) (by simp)
theorem Fnd.notCells {w : World} {b : Nat} {ts : List Int} (h : Fnd w b ts) (cur : Array Value) (e : TypeId) (fz : Nat × Nat) : w.heap[b]? ≠ some (.cells cur e fz) := by
  obtain ⟨D, ⟨es, clock, h1, _⟩, _⟩ := h
  rw [h1]
  simp
theorem Tryz.zeroBoolI (w : World) : (zeroValue 4).run Tryz.prog w = .ok (.bool false) w := by kernel_rfl
theorem Fnd.look {w : World} {b : Nat} {ts : List Int} (h : Fnd w b ts) (t : Int) (hi : IntR t) :
    (Instr.lookup 69 (.map (some b)) (.int .i64 t) false).run Tryz.prog w = .ok (.bool (decide (t ∈ ts))) w := by
  obtain ⟨D, h1, h2⟩ := h
  obtain ⟨v, ps, hrun, hv⟩ := h1.lookup lawInt Tryz.underlying69 (Tryz.zeroBoolI w) (plainElem_bool Tryz.underlying4 false) (key_int t hi)
  rw [h2.at_ t hi] at hv
  have : v = .bool (decide (t ∈ ts)) := by
    unfold plainElem at hv
    rw [Tryz.underlying4] at hv
    cases v <;> simp at hv
    rw [hv.1]
  rw [← this]
  exact hrun
theorem FndD.put {D : DataW Unit} {ts : List Int} (h : FndD D ts) (t : Int) (hi : IntR t) : FndD (D.put (.int .i64 t) (.lit (.bool true))) (ts ++ [t]) := by
  refine ⟨h.map.put _ _, fun t' hi' => ?_⟩
  by_cases he : t' = t
  · subst he
    rw [Maps.atKey_put_same h.map (lawInt.key (key_int t' hi))]
    simp
  · have hne : (Lit.int .i64 t' : Lit) ≠ .int .i64 t := by
      intro e
      injection e with _ e
      exact he e
    rw [Maps.atKey_put_other hne, h.at_ t' hi']
    simp [he]
theorem wpList_fnd (w : World) {ops : Array Oper} {rest : List Oper} {o : Oper} {a : Act} {Q : Exit → Act → World → Prop} (hg : o.guard = none) (m x v : Operand) (hop : o.op = Op.mapUpdate 69 m x v)
    (b : Nat) (ts : List Int) (h : Fnd w b ts) (hn : ts.length < maxLen) (hm : a.eval m = .map (some b)) (t : Int) (hx : a.eval x = .int .i64 t) (hv : a.eval v = .bool true) (hi : IntR t)
    (hK : ∀ w', Fnd w' b (ts ++ [t]) → w.grownBy w' (some b) → wpList Tryz.prog ops Q rest (a.put o.dst undef) w') : wpList Tryz.prog ops Q (o :: rest) a w := by
  obtain ⟨D, h1, h2⟩ := h
  refine wpList_mapUpdate_own w hg m x v _ hop _ _ lawInt Tryz.underlying69 _ b _ D hm h1 hn _ _ (.int .i64 t) hx hv (key_int t hi) _ [] (plainElem_bool Tryz.underlying4 true) ?_
  intro w' h3 h4
  exact hK w' ⟨_, by simpa using h3, h2.put t hi⟩ h4
end Go.Proofs.YtnbkffehhahckaaGreat

namespace Go.Proofs.YtnbkffehhahckaaGreat
open Go.RowKit
set_option linter.unusedVariables false
structure RdR (w : World) (p : Option Addr) (n c : Nat) (l : List RawP) : Prop where
  len : l.length = n
  cap : n ≤ c
  big : c ≤ maxLen
  mem : 0 < n → ∃ g, p = some ⟨g, 0, none⟩ ∧ ∀ j u, (rowC l)[j]? = some u → w.cell? ⟨g, j, none⟩ = some u
  bods : BodR w l
theorem RdR.keep {w w' : World} {p : Option Addr} {n c : Nat} {l : List RawP} (h : RdR w p n c l) (hk : ∀ a v, w.cell? a = some v → w'.cell? a = some v) : RdR w' p n c l :=
  ⟨h.len, h.cap, h.big, fun h0 => by
    obtain ⟨g, e, hc⟩ := h.mem h0
    exact ⟨g, e, fun j u hj => hk _ _ (hc j u hj)⟩, h.bods.keep hk⟩
theorem RdR.below {w w' : World} {p : Option Addr} {n c : Nat} {l : List RawP} (h : RdR w p n c l) (hb : Below w.heap.size w w') : RdR w' p n c l := h.keep (cell_below hb)
theorem RdR.le {w : World} {p : Option Addr} {n c : Nat} {l : List RawP} (h : RdR w p n c l) : n ≤ 9223372036854775807 := by
  have h1 := h.cap
  have h2 := h.big
  unfold maxLen at h2
  omega
theorem RdR.elem {w : World} {p : Option Addr} {n c : Nat} {l : List RawP} (h : RdR w p n c l) (j : Nat) (hj : j < l.length) :
    ∃ g, p = some ⟨g, 0, none⟩ ∧ w.cell? ⟨g, j * 3, none⟩ = some (.int .i64 l[j].k) ∧ w.cell? ⟨g, j * 3 + 1, none⟩ = some (.bool l[j].c) ∧ w.cell? ⟨g, j * 3 + 2, none⟩ = some (.slice l[j].p l[j].n l[j].m) ∧ Byt w l[j].p l[j].n l[j].m l[j].b := by
  obtain ⟨g, e, hc⟩ := h.mem (by have := h.len; omega)
  obtain ⟨h0, h1, h2⟩ := rowC_get l j hj
  exact ⟨g, e, hc _ _ h0, hc _ _ h1, hc _ _ h2, h.bods _ (List.getElem_mem hj)⟩
theorem Rws.rd {w : World} {base : Nat} {v : Value} {l : List RawP} {n : Nat} (h : Rws w base v l) (hn : l.length = n) : ∃ p c, v = .slice p n c ∧ RdR w p n c l := by
  subst hn
  have hb := h.bodR
  rcases h.own.2 with ⟨rfl, h0⟩ | ⟨g, cap, cur, rfl, hg, hh, hnc, hm, hs, ht⟩
  · exact ⟨none, 0, by rw [h0], rfl, by omega, by unfold maxLen; omega, fun h => by omega, hb⟩
  · refine ⟨_, _, rfl, rfl, hnc, hm, fun h0 => ⟨g, rfl, fun j u hj => ?_⟩, hb⟩
    have := World.ownsRow.cells h.own (g := g) rfl j u hj
    rw [WideShapes.add_plain, Nat.zero_add] at this
    exact this
theorem wraps_any (k : Int) (w : World) : Calls Tryz.prog 70 #[.int .i64 k] w fun e w' => e = .returned (.bool (lastK k)) ∧ w = w' := by
  go_enter Tryz.func70, Tryz.ntmps70
  go_wp2
  all_goals go_ret
  all_goals exact ⟨by simp_all [lastK], rfl⟩
def knownK (k : Int) : Bool := decide ((33 ≤ k ∧ k ≤ 37) ∨ (39 ≤ k ∧ k ≤ 46) ∨ k = 53)
theorem known_any (k : Int) (w : World) : Calls Tryz.prog 41 #[.int .i64 k] w fun e w' => e = .returned (.bool (knownK k)) ∧ w = w' := by
  by_cases h : (33 ≤ k ∧ k ≤ 37) ∨ (39 ≤ k ∧ k ≤ 46) ∨ k = 53
  · have e : knownK k = true := decide_eq_true h
    rw [e]
    have hk : k = 33 ∨ k = 34 ∨ k = 35 ∨ k = 36 ∨ k = 37 ∨ k = 39 ∨ k = 40 ∨ k = 41 ∨ k = 42 ∨ k = 43 ∨ k = 44 ∨ k = 45 ∨ k = 46 ∨ k = 53 := by omega
    clear h e
    rcases hk with rfl | rfl | rfl | rfl | rfl | rfl | rfl | rfl | rfl | rfl | rfl | rfl | rfl | rfl
    all_goals
      go_enter Tryz.func41, Tryz.ntmps41
      go_wp2
      go_ret
      exact ⟨rfl, rfl⟩
  · have e : knownK k = false := decide_eq_false h
    rw [e]
    have e1 : (k == 33) = false := by simp; omega
    have e2 : (k == 34) = false := by simp; omega
    have e3 : (k == 35) = false := by simp; omega
    have e4 : (k == 36) = false := by simp; omega
    have e5 : (k == 37) = false := by simp; omega
    have e6 : (k == 39) = false := by simp; omega
    have e7 : (k == 40) = false := by simp; omega
    have e8 : (k == 41) = false := by simp; omega
    have e9 : (k == 42) = false := by simp; omega
    have e10 : (k == 43) = false := by simp; omega
    have e11 : (k == 44) = false := by simp; omega
    have e12 : (k == 45) = false := by simp; omega
    have e13 : (k == 46) = false := by simp; omega
    have e14 : (k == 53) = false := by simp; omega
    clear h e
    go_enter Tryz.func41, Tryz.ntmps41
    go_wp2
    go_ret
    exact ⟨rfl, rfl⟩
theorem typeAt_in (p : Option Addr) (n c : Nat) (l : List RawP) (w : World) (h : RdR w p n c l) (i : Nat) (hi : i < l.length) (last z : Int) (hz : l[i].k = z) :
    Calls Tryz.prog 48 #[.slice p n c, .int .i64 i, .int .i64 last] w fun e w' => e = .returned (.int .i64 z) ∧ w = w' := by
  obtain ⟨g, rfl, c0, d1, d2, d3⟩ := h.elem i hi
  have hle := h.le
  have hl : i < n := by rw [← h.len]; exact hi
  rw [hz] at c0
  clear d1 d2 d3 h hz hi
  go_enter Tryz.func48, Tryz.ntmps48
  go_wp2
  go_ret
  exact ⟨rfl, rfl⟩
theorem typeAt_out (p : Option Addr) (n c : Nat) (w : World) (hn : n ≤ 9223372036854775807) (i : Nat) (hi : n ≤ i) (last : Int) :
    Calls Tryz.prog 48 #[.slice p n c, .int .i64 i, .int .i64 last] w fun e w' => e = .returned (.int .i64 last) ∧ w = w' := by
  go_enter Tryz.func48, Tryz.ntmps48
  go_wp2
  go_ret
  exact ⟨rfl, rfl⟩
end Go.Proofs.YtnbkffehhahckaaGreat

namespace Go.Proofs.YtnbkffehhahckaaGreat
open Go.RowKit
set_option linter.unusedVariables false
def BuiltC (w : World) (k : Int) (L : List Int) (E : Int) (e : Ending) (w' : World) : Prop := ∃ v, e = .returned (.tuple #[.int .i64 k, v, .int .i64 E]) ∧ Own w' w.heap.size 5 v L ∧ Below w.heap.size w w'
theorem built_many (l : List Raw) (last : Int) (h : 40 < l.length) : buildC l last = (0, [], 10) := by rw [buildC, if_pos h]
theorem built_err (l : List Raw) (last E : Int) (h : ¬ 40 < l.length) (he : errC l = E) (h0 : E ≠ 0) : buildC l last = (0, [], E) := by
  subst he
  rw [buildC, if_neg h, if_pos h0]
theorem built_last (l : List Raw) (last : Int) (h : ¬ 40 < l.length) (he : errC l = 0) (hl : last < 0 ∨ 255 < last) : buildC l last = (0, [], 5) := by
  rw [buildC, if_neg h, if_neg (by omega), if_pos hl]
theorem built_order (l : List Raw) (last : Int) (h : ¬ 40 < l.length) (he : errC l = 0) (hl : ¬ (last < 0 ∨ 255 < last)) (h0 : last ≠ 0) (hn : endsC l = false) : buildC l last = (0, [], 7) := by
  rw [buildC, if_neg h, if_neg (by omega), if_neg hl, if_pos ⟨h0, hn⟩]
theorem built_ok (l : List Raw) (last : Int) (h : ¬ 40 < l.length) (he : errC l = 0) (hl : ¬ (last < 0 ∨ 255 < last)) (h0 : last = 0 ∨ endsC l = true) : buildC l last = (nextC 0 l, encC last l, 0) := by
  rw [buildC, if_neg h, if_neg (by omega), if_neg hl, if_neg]
  rintro ⟨h1, h2⟩
  rcases h0 with h0 | h0
  · exact h1 h0
  · rw [h0] at h2
    cases h2
structure AtR (w : World) (l : List RawP) (g i : Nat) (k : Int) (c : Bool) (pb : Option Addr) (nb cb : Nat) (b : List Int) : Prop where
  hk : w.cell? ⟨g, i * 3, none⟩ = some (.int .i64 k)
  hc : w.cell? ⟨g, i * 3 + 1, none⟩ = some (.bool c)
  hb : w.cell? ⟨g, i * 3 + 2, none⟩ = some (.slice pb nb cb)
  byt : Byt w pb nb cb b
  raw : (l.map RawP.raw)[i]? = some ⟨k, c, b⟩
theorem RdR.get {w : World} {p : Option Addr} {n c : Nat} {l : List RawP} (h : RdR w p n c l) (i : Nat) (hi : i < n) : ∃ g k cc pb nb cb b, p = some ⟨g, 0, none⟩ ∧ AtR w l g i k cc pb nb cb b := by
  have hl : i < l.length := by rw [h.len]; exact hi
  obtain ⟨g, e, h0, h1, h2, h3⟩ := h.elem i hl
  exact ⟨g, _, _, _, _, _, _, e, h0, h1, h2, h3, by simp [hl, RawP.raw]⟩
theorem AtR.below {w w' : World} {l : List RawP} {g i : Nat} {k : Int} {c : Bool} {pb : Option Addr} {nb cb : Nat} {b : List Int} (h : AtR w l g i k c pb nb cb b) (hb : Below w.heap.size w w') : AtR w' l g i k c pb nb cb b :=
  ⟨cell_below hb _ _ h.hk, cell_below hb _ _ h.hc, cell_below hb _ _ h.hb, h.byt.below hb, h.raw⟩
theorem AtR.err {w : World} {l : List RawP} {g i : Nat} {k : Int} {c : Bool} {pb : Option Addr} {nb cb : Nat} {b : List Int} (h : AtR w l g i k c pb nb cb b) {n : Nat} (hn : l.length = n) :
    errC ((l.map RawP.raw).drop i) = if k < 1 ∨ 255 < k then 5 else if 65531 < nb then 11 else if lastK k = true ∧ i + 1 < n then 7 else errC ((l.map RawP.raw).drop (i + 1)) := by
  obtain ⟨hi, he⟩ := List.getElem?_eq_some_iff.1 h.raw
  rw [err_step i hi, he]
  have : b.length = nb := h.byt.len
  simp only [this, List.length_map, hn]
theorem AtR.enc {w : World} {l : List RawP} {g i : Nat} {k : Int} {c : Bool} {pb : Option Addr} {nb cb : Nat} {b : List Int} (h : AtR w l g i k c pb nb cb b) (last : Int) :
    encC last ((l.map RawP.raw).drop i) = oneC (nextC last ((l.map RawP.raw).drop (i + 1))) ⟨k, c, b⟩ ++ encC last ((l.map RawP.raw).drop (i + 1)) := by
  obtain ⟨hi, he⟩ := List.getElem?_eq_some_iff.1 h.raw
  rw [enc_step i hi, he]
theorem AtR.next {w : World} {l : List RawP} {g i : Nat} {k : Int} {c : Bool} {pb : Option Addr} {nb cb : Nat} {b : List Int} (h : AtR w l g (i + 1) k c pb nb cb b) (last : Int) : nextC last ((l.map RawP.raw).drop (i + 1)) = k := by
  obtain ⟨hi, he⟩ := List.getElem?_eq_some_iff.1 h.raw
  rw [next_more i hi, he]
theorem err_at {l : List Raw} (h : errC l = 0) (i : Nat) (r : Raw) (hr : l[i]? = some r) : 1 ≤ r.k ∧ r.k ≤ 255 ∧ r.b.length ≤ 65531 := by
  induction l generalizing i with
  | nil => simp at hr
  | cons a l ih =>
    obtain ⟨h1, h2, h3, _, h5⟩ := errC_cons h
    cases i with
    | zero =>
      simp at hr
      subst hr
      exact ⟨h1, h2, h3⟩
    | succ i => exact ih h5 i (by simpa using hr)
theorem AtR.good {w : World} {l : List RawP} {g i : Nat} {k : Int} {c : Bool} {pb : Option Addr} {nb cb : Nat} {b : List Int} (h : AtR w l g i k c pb nb cb b) (he : errC (l.map RawP.raw) = 0) : 1 ≤ k ∧ k ≤ 255 ∧ nb ≤ 65531 := by
  have := err_at he i _ h.raw
  have hl : b.length = nb := h.byt.len
  simp only [hl] at this
  exact this
theorem beOne (v : Int) : be 1 v = [v % 256] := by simp [be]
theorem oneC_form (next : Int) (k : Int) (c : Bool) (b : List Int) (xs : List Int) (nb : Nat) (h : b.length = nb) : xs ++ oneC next ⟨k, c, b⟩ = (xs ++ [next % 256, if c then 128 else 0] ++ be 2 ((nb : Int) + 4)) ++ b := by
  subst h
  simp [oneC]
theorem oneC_rng (next : Int) (k : Int) (c : Bool) (b : List Int) (h : ∀ x ∈ b, 0 ≤ x ∧ x ≤ 255) : ∀ x ∈ oneC next ⟨k, c, b⟩, 0 ≤ x ∧ x ≤ 255 := by
  refine rng_append ?_ (rng_append (be_rng _ _) h)
  intro x hx
  simp at hx
  rcases hx with rfl | rfl
  · omega
  · split <;> omega
end Go.Proofs.YtnbkffehhahckaaGreat

namespace Go.Proofs.YtnbkffehhahckaaGreat
open Go.RowKit
set_option linter.unusedVariables false
theorem ends_take (l : List Raw) (j : Nat) (h : j < l.length) : endsC (l.take (j + 1)) = lastK l[j].k := by
  rw [ends_last _ (by rw [List.length_take]; omega)]
  have : (l.take (j + 1)).length - 1 = j := by rw [List.length_take]; omega
  simp only [this, List.getElem_take]
theorem put_one (p : Option Addr) (n c : Nat) (xs : List Int) (w : World) (h : Byt w p n c xs) (hb : n ≤ 140737488355000) (v : Int) (hv : 0 ≤ v ∧ v ≤ 255) :
    Calls Tryz.prog 34 #[.slice p n c, .int .u64 v, .int .i64 1] w (BytesPut w (xs ++ [v])) := by
  have := put_yes p n c xs w h hb v (by omega) 1 (by omega) (by omega)
  have e : be 1 v = [v] := by
    rw [beOne]
    congr 1
    omega
  rw [e] at this
  exact this
theorem put_two (p : Option Addr) (n c : Nat) (xs : List Int) (w : World) (h : Byt w p n c xs) (hb : n ≤ 140737488355000) (v : Int) (hv : 0 ≤ v ∧ v ≤ 18446744073709551615) :
    Calls Tryz.prog 34 #[.slice p n c, .int .u64 v, .int .i64 2] w (BytesPut w (xs ++ be 2 v)) := put_yes p n c xs w h hb v hv 2 (by omega) (by omega)
set_option maxHeartbeats 800000 in
theorem head_any (k : Int) (c : Bool) (pb : Option Addr) (nb cb : Nat) (nx : Int) (w : World) (hn : nb ≤ 65531) (hx : 0 ≤ nx ∧ nx ≤ 255) :
    Calls Tryz.prog 47 #[.agg #[.int .i64 k, .bool c, .slice pb nb cb], .int .i64 nx] w (BytesPut w ([nx, if c then 128 else 0] ++ be 2 ((nb : Int) + 4))) := by
  have hx0 := hx.1
  have hx1 := hx.2
  have HP1 := hidden (fun w => put_one none 0 0 [] w (Byt.nil _ _ _ (Nat.zero_le _)) (by omega) nx hx)
  have hb0 := (Below.refl w.heap.size w).alloc (Nat.le_refl _) (.cells #[.int .i64 k, .bool c, .slice pb nb cb] 85)
  have HB0 := hidden hb0
  have hw1 : w.heap.size < (w.alloc (.cells #[.int .i64 k, .bool c, .slice pb nb cb] 85)).heap.size := by simp
  have HC := hidden (show (w.alloc (.cells #[.int .i64 k, .bool c, .slice pb nb cb] 85)).cell? ⟨w.heap.size, 2, none⟩ = some (.slice pb nb cb) by go_simp)
  obtain ⟨bv, hbv, hb1⟩ : ∃ bv : Int, (if c then (128 : Int) else 0) = bv ∧ (0 ≤ bv ∧ bv ≤ 255) := ⟨_, rfl, by split <;> omega⟩
  rw [hbv]
  have HBV := hidden hbv
  clear hbv hb0 hx
  go_enter Tryz.func47, Tryz.ntmps47
  go_upto_if 8 with fail
  go_cut [5] from 7 to 8 (fun a w' => a = .int .i64 bv ∧ w.alloc (.cells #[.int .i64 k, .bool c, .slice pb nb cb] 85) = w')
  case first =>
    have h := HBV.out
    clear HBV
    cases c
    all_goals
      simp at h
      subst h
      go_wp2
      go_meet
      case rel => exact ⟨rfl, rfl⟩
  case rest =>
    obtain ⟨rfl, rfl⟩ := hcut
    go_wp2_with (go_at_call 34; (with_reducible refine (HP1.out _).mono ?_))
    rintro e w2 ⟨v2, rfl, hown, hb⟩
    have HC2 := hidden (cell_below hb _ _ HC.out)
    have HB2 := hidden (HB0.out.trans (hb.mono HB0.out.size))
    obtain ⟨p2, c2, rfl, hy⟩ := hown.bytN (N := 1) rfl rfl (by intro z hz; simp at hz; omega)
    have HY2 := hidden hy
    clear hown hb hy HC HB0 HP1
    have HP2 := hidden (fun w (h : Byt w p2 1 c2 ([] ++ [nx])) => put_one p2 1 c2 ([] ++ [nx]) w h (by omega) bv hb1)
    go_wp2_with (go_at_call 34; (with_reducible refine (HP2.out _ HY2.out).mono ?_))
    rintro e w3 ⟨v3, rfl, hown, hb⟩
    have hc3 := cell_below hb _ _ HC2.out
    have HB3 := hidden (HB2.out.trans (hb.mono HB2.out.size))
    obtain ⟨p3, c3, rfl, hy⟩ := hown.bytN (N := 2) rfl rfl (by intro z hz; simp at hz; omega)
    have HY3 := hidden hy
    clear hown hb hy HC2 HB2 HP2 HY2
    have HP3 := hidden (fun w (h : Byt w p3 2 c3 ([] ++ [nx] ++ [bv])) => put_two p3 2 c3 ([] ++ [nx] ++ [bv]) w h (by omega) (4 + (nb : Int)) (by omega))
    go_wp2_with (go_at_call 34; (with_reducible refine (HP3.out _ HY3.out).mono ?_))
    rintro e w4 ⟨v4, rfl, hown, hb⟩
    have HB4 := hidden (HB3.out.trans (hb.mono HB3.out.size))
    have HO4 := hidden (hown.mono HB3.out.size)
    clear hown hb hc3
    go_wp2
    go_ret
    refine ⟨v4, rfl, ?_, HB4.out⟩
    have e : ((nb : Int) + 4) = 4 + (nb : Int) := by omega
    rw [e]
    simpa using HO4.out
set_option maxHeartbeats 1600000 in
set_option maxRecDepth 100000 in
theorem ccheck_any (p : Option Addr) (n c : Nat) (l : List RawP) (last : Int) (w : World) (h : RdR w p n c l) (k : Int) (L : List Int) (E : Int) (hb : buildC (l.map RawP.raw) last = (k, L, E)) :
    Calls Tryz.prog 46 #[.slice p n c, .int .i64 last] w fun e w' => e = .returned (.int .i64 E) ∧ Below w.heap.size w w' := by
  have hn := h.le
  have HR := hidden h
  have HL := hidden h.len
  have HB := hidden hb
  clear h hb
  by_cases h40 : 40 < n
  · have hb := built_many (l.map RawP.raw) last (by rw [List.length_map, HL.out]; exact h40)
    rw [HB.out] at hb
    simp at hb
    obtain ⟨rfl, rfl, rfl⟩ := hb
    go_enter Tryz.func46, Tryz.ntmps46
    go_wp2
    go_ret
    exact ⟨rfl, Below.refl _ _⟩
  have h40' : ¬ 40 < (l.map RawP.raw).length := by rw [List.length_map, HL.out]; exact h40
  have H40 := hidden h40'
  clear h40'
  go_enter Tryz.func46, Tryz.ntmps46
  go_wp2
  go_loopw [5, 13] (fun o i wr => ∃ j : Nat, j ≤ n ∧ i = .int .i64 j ∧ o = .bool (endsC ((l.map RawP.raw).take j)) ∧ errC (l.map RawP.raw) = errC ((l.map RawP.raw).drop j) ∧ Below w.heap.size w wr) (fun _ i _ => n - (intOf i).toNat)
  case atStart => exact ⟨0, by omega, rfl, by simp [endsC], by simp, Below.refl _ _⟩
  case round =>
    obtain ⟨j, hj, rfl, rfl, herr, hbl⟩ := hrel
    have HBL := hidden hbl
    by_cases hlt : j < n
    · obtain ⟨g, kk, cc, pb, nb, cb, b, rfl, hat⟩ := HR.out.get j hlt
      have e1 := hat.err HL.out
      rw [← herr] at e1
      have HE := hidden e1
      have c0 := cell_below hbl _ _ hat.hk
      have c1 := cell_below hbl _ _ hat.hc
      have c2 := cell_below hbl _ _ hat.hb
      have hnb := hat.byt.le
      have het : endsC ((l.map RawP.raw).take (j + 1)) = lastK kk := by
        obtain ⟨hi, he⟩ := List.getElem?_eq_some_iff.1 hat.raw
        rw [ends_take _ j hi, he]
      have HET := hidden het
      have HBX := hidden (HBL.out.alloc HBL.out.size (.cells #[.int .i64 kk, .bool cc, .slice pb nb cb] 85))
      have HW := hidden (fun w => wraps_any kk w)
      clear hat e1 herr hbl het
      by_cases k1 : kk < 1
      · have hb := built_err (l.map RawP.raw) last 5 H40.out (by rw [HE.out, if_pos (Or.inl k1)]) (by omega)
        rw [HB.out] at hb
        simp at hb
        obtain ⟨rfl, rfl, rfl⟩ := hb
        go_wp2_with (go_at_call 70; (with_reducible refine (HW.out _).mono ?_); rintro e w' ⟨rfl, rfl⟩)
        go_ret
        exact ⟨rfl, HBX.out⟩
      by_cases k2 : 255 < kk
      · have hb := built_err (l.map RawP.raw) last 5 H40.out (by rw [HE.out, if_pos (Or.inr k2)]) (by omega)
        rw [HB.out] at hb
        simp at hb
        obtain ⟨rfl, rfl, rfl⟩ := hb
        go_wp2_with (go_at_call 70; (with_reducible refine (HW.out _).mono ?_); rintro e w' ⟨rfl, rfl⟩)
        go_ret
        exact ⟨rfl, HBX.out⟩
      by_cases k3 : 65531 < nb
      · have hb := built_err (l.map RawP.raw) last 11 H40.out (by rw [HE.out, if_neg (by omega), if_pos k3]) (by omega)
        rw [HB.out] at hb
        simp at hb
        obtain ⟨rfl, rfl, rfl⟩ := hb
        go_wp2_with (go_at_call 70; (with_reducible refine (HW.out _).mono ?_); rintro e w' ⟨rfl, rfl⟩)
        go_ret
        exact ⟨rfl, HBX.out⟩
      by_cases k4 : lastK kk = true
      · by_cases k5 : j + 1 < n
        · have hb := built_err (l.map RawP.raw) last 7 H40.out (by rw [HE.out, if_neg (by omega), if_neg k3, if_pos ⟨k4, k5⟩]) (by omega)
          rw [HB.out] at hb
          simp at hb
          obtain ⟨rfl, rfl, rfl⟩ := hb
          go_wp2_with (go_at_call 70; (with_reducible refine (HW.out _).mono ?_); rintro e w' ⟨rfl, rfl⟩)
          go_ret
          exact ⟨rfl, HBX.out⟩
        · have he := HE.out
          rw [if_neg (by omega), if_neg k3, if_neg (fun h => k5 h.2)] at he
          have HE2 := hidden he
          clear he
          go_wp2_with (go_at_call 70; (with_reducible refine (HW.out _).mono ?_); rintro e w' ⟨rfl, rfl⟩)
          go_roundw
          case rel => exact ⟨j + 1, by omega, by go_num, by rw [HET.out]; simp [k4], HE2.out, HBX.out⟩
          case measure => simp [intOf]; omega
      · have k5 : lastK kk = false := by simpa using k4
        have he := HE.out
        rw [if_neg (by omega), if_neg k3, if_neg (fun h => k4 h.1)] at he
        have HE2 := hidden he
        clear he k4
        go_wp2_with (go_at_call 70; (with_reducible refine (HW.out _).mono ?_); rintro e w' ⟨rfl, rfl⟩)
        go_roundw
        case rel => exact ⟨j + 1, by omega, by go_num, by rw [HET.out]; simp [k5], HE2.out, HBX.out⟩
        case measure => simp [intOf]; omega
    · obtain rfl : j = n := by omega
      have herr0 : errC (l.map RawP.raw) = 0 := by rw [herr, err_end _ (by rw [List.length_map, HL.out]; exact Nat.le_refl _)]
      rw [List.take_of_length_le (by rw [List.length_map, HL.out]; exact Nat.le_refl _)]
      have HE := hidden herr0
      clear herr herr0 hbl
      by_cases hl0 : last < 0
      · have hb := built_last (l.map RawP.raw) last H40.out HE.out (Or.inl hl0)
        rw [HB.out] at hb
        simp at hb
        obtain ⟨rfl, rfl, rfl⟩ := hb
        go_wp2
        go_ret
        exact ⟨rfl, HBL.out⟩
      by_cases hl1 : 255 < last
      · have hb := built_last (l.map RawP.raw) last H40.out HE.out (Or.inr hl1)
        rw [HB.out] at hb
        simp at hb
        obtain ⟨rfl, rfl, rfl⟩ := hb
        go_wp2
        go_ret
        exact ⟨rfl, HBL.out⟩
      by_cases hz : last = 0
      · have hb := built_ok (l.map RawP.raw) last H40.out HE.out (by omega) (Or.inl hz)
        rw [HB.out] at hb
        simp at hb
        obtain ⟨rfl, rfl, rfl⟩ := hb
        have hz1 : (last != 0) = false := by simpa using hz
        clear hz
        go_wp2
        go_ret
        exact ⟨rfl, HBL.out⟩
      have hz1 : (last != 0) = true := by simpa using hz
      rcases he : endsC (l.map RawP.raw) with _ | _
      · have hb := built_order (l.map RawP.raw) last H40.out HE.out (by omega) hz he
        rw [HB.out] at hb
        simp at hb
        obtain ⟨rfl, rfl, rfl⟩ := hb
        clear hz he
        go_wp2
        go_ret
        exact ⟨rfl, HBL.out⟩
      · have hb := built_ok (l.map RawP.raw) last H40.out HE.out (by omega) (Or.inr he)
        rw [HB.out] at hb
        simp at hb
        obtain ⟨rfl, rfl, rfl⟩ := hb
        clear hz he
        go_wp2
        go_ret
        exact ⟨rfl, HBL.out⟩
set_option maxHeartbeats 1600000 in
set_option maxRecDepth 100000 in
theorem buildC_any (p : Option Addr) (n c : Nat) (l : List RawP) (last : Int) (w : World) (h : RdR w p n c l) (k : Int) (L : List Int) (E : Int) (hb : buildC (l.map RawP.raw) last = (k, L, E)) :
    Calls Tryz.prog 32 #[.slice p n c, .int .i64 last] w (BuiltC w k L E) := by
  obtain ⟨i0, hi0, hz0, hz1, hz2⟩ := info_parts Tryz.infoByte
  have hn := h.le
  have HCK := hidden (ccheck_any p n c l last w h k L E hb)
  by_cases hE : E ≠ 0
  · obtain ⟨rfl, rfl⟩ : k = 0 ∧ L = [] := by
      unfold buildC at hb
      split at hb
      · simp at hb; exact ⟨hb.1.symm, hb.2.1⟩
      split at hb
      · simp at hb; exact ⟨hb.1.symm, hb.2.1⟩
      split at hb
      · simp at hb; exact ⟨hb.1.symm, hb.2.1⟩
      split at hb
      · simp at hb; exact ⟨hb.1.symm, hb.2.1⟩
      · simp at hb; exact absurd hb.2.2.symm hE
    have hE1 : (E != 0) = true := by simpa using hE
    clear h hb hE
    go_enter Tryz.func32, Tryz.ntmps32
    go_wp2_with (go_at_call 46; (with_reducible refine (HCK.out).mono ?_); rintro e w' ⟨rfl, hb⟩)
    go_ret3
    exact ⟨_, rfl, Own.nil _ _ _, hb⟩
  obtain rfl : E = 0 := by omega
  obtain ⟨herr, h40, rfl, rfl, hl0, hl1⟩ : errC (l.map RawP.raw) = 0 ∧ (l.map RawP.raw).length ≤ 40 ∧ k = nextC 0 (l.map RawP.raw) ∧ L = encC last (l.map RawP.raw) ∧ 0 ≤ last ∧ last ≤ 255 := by
    unfold buildC at hb
    split at hb
    · simp at hb
    split at hb
    · simp at hb; omega
    split at hb
    · simp at hb
    split at hb
    · simp at hb
    · simp at hb; exact ⟨by omega, by omega, hb.1.symm, hb.2.symm, by omega, by omega⟩
  have hlast0 : l = [] → last = 0 := by
    intro he
    subst he
    unfold buildC at hb
    by_cases h0 : last = 0
    · exact h0
    · simp [errC, endsC, h0] at hb
      split at hb
      · simp at hb
      · simp at hb
  have HR := hidden h
  have HL := hidden h.len
  have HE := hidden herr
  have HL0 := hidden hlast0
  have hn40 : n ≤ 40 := by rw [← h.len]; simpa using h40
  clear h hb hE herr h40 hlast0
  go_enter Tryz.func32, Tryz.ntmps32
  go_wp2_with (go_at_call 46; (with_reducible refine (HCK.out).mono ?_))
  rintro e w1 ⟨rfl, hb⟩
  have HB1 := hidden hb
  clear hb HCK
  go_wp2
  go_loopw [8, 19] (fun u i wr => ∃ t : Nat, t ≤ n ∧ i = .int .i64 t ∧ ∃ xs : List Int, xs ++ encC last ((l.map RawP.raw).drop t) = encC last (l.map RawP.raw) ∧ xs.length ≤ t * 65535 ∧ (∀ x ∈ xs, 0 ≤ x ∧ x ≤ 255) ∧ Own wr w.heap.size 5 u xs ∧ Below w.heap.size w wr) (fun _ i _ => n - (intOf i).toNat)
  case atStart => exact ⟨0, by omega, rfl, [], by simp, by simp, by simp, Own.nil _ _ _, HB1.out⟩
  case round =>
    obtain ⟨t, ht, rfl, xs, hxs, hxl, hxr, ho, hbl⟩ := hrel
    have HO := hidden ho
    have HBL := hidden hbl
    by_cases hlt : t < n
    · obtain ⟨g, kk, cc, pb, nb, cb, b, rfl, hat⟩ := HR.out.get t hlt
      obtain ⟨q1, q2, q3⟩ := hat.good HE.out
      have hst := hat.enc last
      rw [hst] at hxs
      have hat2 := hat.below hbl
      have c0 := hat2.hk
      have c1 := hat2.hc
      have c2 := hat2.hb
      have HBY := hidden hat.byt
      obtain ⟨nx, hnx, hn0, hn1, hcall⟩ : ∃ nx, nextC last ((l.map RawP.raw).drop (t + 1)) = nx ∧ 0 ≤ nx ∧ nx ≤ 255 ∧ ∀ w', Below w.heap.size w w' → Calls Tryz.prog 48 #[.slice (some ⟨g, 0, none⟩) n c, .int .i64 ((t : Int) + 1), .int .i64 last] w' (fun e w'' => e = .returned (.int .i64 nx) ∧ w' = w'') := by
        by_cases h1 : t + 1 < n
        · obtain ⟨g3, k3, c3, p3, n3, cb3, b3, hg3, hat3⟩ := HR.out.get (t + 1) h1
          obtain ⟨r1, r2, r3⟩ := hat3.good HE.out
          obtain ⟨hi, he⟩ := List.getElem?_eq_some_iff.1 hat3.raw
          refine ⟨k3, hat3.next last, by omega, r2, fun w' hb => ?_⟩
          have := typeAt_in _ n c l w' (HR.out.below hb) (t + 1) (by rw [HL.out]; exact h1) last k3 (by simpa [RawP.raw] using congrArg Raw.k he)
          exact this
        · refine ⟨last, next_end t (by rw [List.length_map, HL.out]; omega), by omega, by omega, fun w' hb => ?_⟩
          have := typeAt_out (some ⟨g, 0, none⟩) n c w' hn (t + 1) (by omega) last
          exact this
      have HT := hidden hcall
      rw [hnx] at hxs
      have hxs2 : (xs ++ oneC nx ⟨kk, cc, b⟩) ++ encC last ((l.map RawP.raw).drop (t + 1)) = encC last (l.map RawP.raw) := by rw [List.append_assoc]; exact hxs
      have HXS := hidden hxs2
      have hxl2 : (xs ++ oneC nx ⟨kk, cc, b⟩).length ≤ (t + 1) * 65535 := by
        have := hat.byt.len
        rw [List.length_append, oneC_len]
        simp only
        omega
      have HXL := hidden hxl2
      have HXR2 := hidden (rng_append hxr (oneC_rng nx kk cc b hat.byt.rng))
      have hj40 : t * 65535 ≤ 2621400 := by omega
      have enx : nx % 256 = nx := by omega
      have hfo := oneC_form nx kk cc b xs nb hat.byt.len
      rw [enx] at hfo
      have hhd := fun w => head_any kk cc pb nb cb nx w q3 ⟨hn0, hn1⟩
      obtain ⟨bv, hbv, hbv0⟩ : ∃ bv : Int, (if cc then (128 : Int) else 0) = bv ∧ (0 ≤ bv ∧ bv ≤ 255) := ⟨_, rfl, by split <;> omega⟩
      rw [hbv] at hfo
      simp only [hbv] at hhd
      have HFO := hidden hfo
      have HHD := hidden hhd
      have HHR := hidden (show ∀ x ∈ [nx, bv] ++ be 2 ((nb : Int) + 4), 0 ≤ x ∧ x ≤ 255 from rng_append (by intro z hz; simp at hz; rcases hz with rfl | rfl <;> omega) (be_rng _ _))
      clear hbv hhd
      have hwi : IntKind.i64.wrap ((t : Int) + 1) = (t : Int) + 1 := wraps_i64 _ (by omega) (by omega)
      have HBX := hidden (HBL.out.alloc HBL.out.size (.cells #[.int .i64 kk, .bool cc, .slice pb nb cb] 85))
      have HOX := hidden (HO.out.alloc (.cells #[.int .i64 kk, .bool cc, .slice pb nb cb] 85))
      have hgr := HBL.out.size
      have hneq : some wr.heap.size ≠ u8.ownBlock := fun e => by
        have := (ho.lt _ e.symm).2
        omega
      clear hst hxs hxs2 hxl2 hat hat2 hnx enx ho hbl hxr hfo hcall
      go_wp2
      have d0 : (wr.alloc (.cells #[.int .i64 kk, .bool cc, .slice pb nb cb] 85)).cell? ⟨wr.heap.size, 0, none⟩ = some (.int .i64 kk) := by go_simp
      have d1 : (wr.alloc (.cells #[.int .i64 kk, .bool cc, .slice pb nb cb] 85)).cell? ⟨wr.heap.size, 1, none⟩ = some (.bool cc) := by go_simp
      have d2 : (wr.alloc (.cells #[.int .i64 kk, .bool cc, .slice pb nb cb] 85)).cell? ⟨wr.heap.size, 2, none⟩ = some (.slice pb nb cb) := by go_simp
      generalize wr.alloc (.cells #[.int .i64 kk, .bool cc, .slice pb nb cb] 85) = wa at *
      generalize wr.heap.size = X at *
      have HBD := hidden HBX.out.drew
      have hl4 : ([nx, bv] ++ be 2 ((nb : Int) + 4)).length = 4 := by simp [be_len]
      have HL4 := hidden hl4
      have hXs := World.block_lt_of_cell? wa _ d2
      clear c0 c1 c2 HBL HO hl4
      go_region_law (first
        | (go_simp; go_at_call 48; (with_reducible refine (HT.out _ HBD.out).mono ?_); rintro e w' ⟨rfl, rfl⟩)
        | (go_simp; go_at_call 47; (with_reducible refine (HHD.out _).mono ?_); rintro e w3 ⟨v3, rfl, hown3, hb3⟩; obtain ⟨p3, c3, rfl, hy3⟩ := hown3.bytN (N := 4) rfl HL4.out HHR.out)
        | (refine step_append_byt _ (by rfl) (.tmp 24) (.tmp 31) 22 (by rfl) w.heap.size 5 i0 (.int .u8 0) Tryz.underlying22 hi0 hz0 hz1 hz2 rfl _ _ (by rfl) (HOX.out.drew.below hb3) _ _ _ _ _ (by rfl) hy3 (by rfl) (by omega) (by have := HBD.out.size; have := hb3.size; omega) ?_; intro u' w4 hown4 hg4))
      all_goals
        have hb3' := HBD.out.trans (hb3.mono HBD.out.size)
        have HB4 := hidden (hb3'.grown hg4 hb3'.size (fun g hg => (HOX.out.lt g hg).1))
        have e2 := hg4.cell (cell_below hb3 _ _ (show wa.drew.cell? _ = _ from d2)) hneq
        have HBY4 := hidden (HBY.out.below HB4.out)
        have hs4 := HB4.out.size
        have HO4 := hidden hown4
        clear hown4 hg4 hb3 hb3' hown3 hy3 d0 d1 d2 HOX HBX HBD HT HHD HHR hwi hneq
        go_wp2_with (at_builtin; go_loud (refine wpList_append_byt _ rfl _ _ 22 rfl w.heap.size 5 i0 (.int .u8 0) Tryz.underlying22 hi0 hz0 hz1 hz2 rfl _ _ rfl HO4.out _ _ _ _ _ rfl HBY4.out rfl ?c1 hs4 ?_))
        case c1 =>
          have := HL4.out
          simp only [List.length_append] at this ⊢
          omega
        intro v5 w5 hown5 hg5
        have HB5 := hidden (HB4.out.grown hg5 HB4.out.size (fun g hg => (HO4.out.lt g hg).1))
        have HO5 := hidden (show Own w5 w.heap.size 5 v5 (xs ++ oneC nx ⟨kk, cc, b⟩) by rw [HFO.out]; simpa using hown5)
        clear hown5 hg5 e2 hs4
        go_wp2
        go_roundw
        case rel => exact ⟨t + 1, by omega, by go_num, _, HXS.out, HXL.out, HXR2.out, HO5.out, HB5.out⟩
        case measure => simp [intOf]; omega
    · obtain rfl : t = n := by omega
      have e1 : xs = encC last (l.map RawP.raw) := by
        rw [← hxs, enc_end t (by rw [List.length_map, HL.out]; exact Nat.le_refl _), List.append_nil]
      subst e1
      have HTY := hidden (show ∀ w', Below w.heap.size w w' → Calls Tryz.prog 48 #[.slice p t c, .int .i64 0, .int .i64 last] w' (fun e w'' => e = .returned (.int .i64 (nextC 0 (l.map RawP.raw))) ∧ w' = w'') by
        intro w' hb
        rcases Nat.eq_zero_or_pos t with h0 | h0
        · subst h0
          have hnil : l = [] := List.eq_nil_of_length_eq_zero HL.out
          have h1 := HL0.out hnil
          subst hnil
          have := typeAt_out p 0 c w' (by omega) 0 (by omega) last
          rw [h1] at this ⊢
          exact this
        · have hpos : 0 < l.length := by rw [HL.out]; exact h0
          have hz : l[0].k = nextC 0 (l.map RawP.raw) := by
            cases l with
            | nil => simp at hpos
            | cons a l => simp [nextC, RawP.raw]
          exact typeAt_in p t c l w' (HR.out.below hb) 0 hpos last _ hz)
      clear hxs hxl hxr ho hbl
      go_wp2_with (go_at_call 48; (with_reducible refine (HTY.out _ HBL.out).mono ?_); rintro e w' ⟨rfl, rfl⟩)
      go_ret3
      exact ⟨_, rfl, HO.out, HBL.out⟩
end Go.Proofs.YtnbkffehhahckaaGreat
