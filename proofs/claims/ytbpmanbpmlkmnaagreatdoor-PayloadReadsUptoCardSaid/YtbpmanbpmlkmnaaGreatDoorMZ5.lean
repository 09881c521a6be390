/-
  Lists of rows of bytes: an element says where its bytes lie.
  A payload as a value of sixteen cells: in a block, loaded, stored, returned.
  slices.Grow of nil, slices.Concat of some slices of bytes.
  Bytes that lie beyond a place; what the fixed part and some parts behind it make.
  What package proposal reads of a section and of a transform, or throws.
-/
import Derived.Test.YtbpmanbpmlkmnaaGreatDoorMZ0
import Derived.Test.YtbpmanbpmlkmnaaGreatDoorRows
import Derived.Test.YtbpmanbpmlkmnaaGreatDoorMZ7
import Derived.Test.YtbpmanbpmlkmnaaGreatDoorMZ1
import Derived.Deep.RegionHeld3
import Derived.Deep.CutBlock
import Derived.ArgAppend
import Derived.Deep.RegionLaw
namespace Go.Proofs.YtbpmanbpmlkmnaaGreatDoor
open Go.RowKit
set_option linter.unusedVariables false

/-- An element of a list of bytes: where its bytes lie. -/
structure Sb where
  p : Option Addr
  n : Nat
  c : Nat
  xs : List Int
def KSb : KindR Sb where
  e := 22
  k := 1
  cs x := [.slice x.p x.n x.c]
  len _ := rfl
  one x u hu := by
    simp at hu
    subst hu
    rfl
  pos := by decide
def DSb : ReadN Sb where
  ok w x := Byt w x.p x.n x.c x.xs
  keep h hk := h.keep hk
def NSb : NestR Sb where
  ts := [5]
  ok w base x := Bod w base x.p x.n x.c x.xs
  keep h hg ho := h.grown hg (fun r hr => (ho r hr).imp id (fun h2 cur fz e => h2 cur _ fz e (by simp)))
  mono h hb := h.mono hb
theorem Tryz.infoSb : (Tryz.prog.info? 22).map (fun i => (i.zero, i.size, i.bytes)) = some (some (.slice none 0 0), 1, 24) := by kernel_rfl
theorem knownSb : KnownR Tryz.prog KSb 40 24 := by
  refine ⟨Tryz.underlying40, ?_⟩
  obtain ⟨i0, hi, hz0, hz1, hz2⟩ := info_parts Tryz.infoSb
  exact ⟨i0, _, hi, hz0, hz1, hz2, rfl⟩
theorem srcSb (w : World) (x : Sb) (T : TypeId) : SrcG KSb (w.alloc (.cells #[.slice x.p x.n x.c] T)) (some ⟨w.heap.size, 0, none⟩) 1 [x] := SrcG.new KSb w [x] T
theorem RowG.sbs {w : World} {base : Nat} {v : Value} {l : List Sb} (h : RowG KSb NSb w base v l) {n : Nat} (hn : l.length = n) : ∃ p c, v = .slice p n c ∧ RdG KSb DSb w p n c l := h.rd hn (fun x hx => hx.byt)
theorem RdG.sb_cons {w : World} {p : Option Addr} {n c j : Nat} {l : List Sb} (h : RdG KSb DSb w p n c l) (hj : j < n) :
    ∃ g x, p = some ⟨g, 0, none⟩ ∧ l[j]? = some x ∧ l.drop j = x :: l.drop (j + 1) ∧ Byt w x.p x.n x.c x.xs ∧ w.cell? ⟨g, j, none⟩ = some (.slice x.p x.n x.c) := by
  have hl : j < l.length := by rw [h.len]; exact hj
  obtain ⟨g, e, hc, hd⟩ := h.cell j hl
  have := hc 0 _ rfl
  simp only [KSb, Nat.mul_one, Nat.add_zero] at this
  exact ⟨g, l[j], e, List.getElem?_eq_getElem hl, List.drop_eq_getElem_cons hl, hd, this⟩
end Go.Proofs.YtbpmanbpmlkmnaaGreatDoor

namespace Go.Proofs.YtbpmanbpmlkmnaaGreatDoor
open Go.RowKit
set_option linter.unusedVariables false

/-- A slice value. -/
structure Sv where
  p : Option Addr
  n : Nat
  c : Nat
def nilV : Sv := ⟨none, 0, 0⟩
/-- A payload: its sixteen cells. -/
structure Pv where
  t : Int
  pr : Sv
  eg : Int
  ed : Sv
  ik : Int
  id : Sv
  am : Int
  ad : Sv
  np : Int
  ns : Sv
  nt : Int
  nd : Sv
  dp : Int
  ds : Sv
  se : Sv
  da : Sv
/-- The payload lies at block g from its first cell on. -/
structure PvIn (w : World) (g : Nat) (x : Pv) : Prop where
  c0 : w.cell? ⟨g, 0, none⟩ = some (.int .i64 x.t)
  c1 : w.cell? ⟨g, 1, none⟩ = some (.slice x.pr.p x.pr.n x.pr.c)
  c2 : w.cell? ⟨g, 2, none⟩ = some (.int .i64 x.eg)
  c3 : w.cell? ⟨g, 3, none⟩ = some (.slice x.ed.p x.ed.n x.ed.c)
  c4 : w.cell? ⟨g, 4, none⟩ = some (.int .i64 x.ik)
  c5 : w.cell? ⟨g, 5, none⟩ = some (.slice x.id.p x.id.n x.id.c)
  c6 : w.cell? ⟨g, 6, none⟩ = some (.int .i64 x.am)
  c7 : w.cell? ⟨g, 7, none⟩ = some (.slice x.ad.p x.ad.n x.ad.c)
  c8 : w.cell? ⟨g, 8, none⟩ = some (.int .i64 x.np)
  c9 : w.cell? ⟨g, 9, none⟩ = some (.slice x.ns.p x.ns.n x.ns.c)
  c10 : w.cell? ⟨g, 10, none⟩ = some (.int .i64 x.nt)
  c11 : w.cell? ⟨g, 11, none⟩ = some (.slice x.nd.p x.nd.n x.nd.c)
  c12 : w.cell? ⟨g, 12, none⟩ = some (.int .i64 x.dp)
  c13 : w.cell? ⟨g, 13, none⟩ = some (.slice x.ds.p x.ds.n x.ds.c)
  c14 : w.cell? ⟨g, 14, none⟩ = some (.slice x.se.p x.se.n x.se.c)
  c15 : w.cell? ⟨g, 15, none⟩ = some (.slice x.da.p x.da.n x.da.c)
  fr : ∀ j, w.frozen? ⟨g, j, none⟩ = false
section
variable {w w' : World} {g : Nat} {x : Pv}
theorem PvIn.lt (h : PvIn w g x) : g < w.heap.size := World.block_lt_of_cell? w _ h.c0
theorem PvIn.grown {row : Option Nat} (h : PvIn w g x) (hg : w.grownBy w' row) (hne : some g ≠ row) : PvIn w' g x :=
  ⟨hg.cell h.c0 hne, hg.cell h.c1 hne, hg.cell h.c2 hne, hg.cell h.c3 hne, hg.cell h.c4 hne, hg.cell h.c5 hne, hg.cell h.c6 hne, hg.cell h.c7 hne, hg.cell h.c8 hne, hg.cell h.c9 hne, hg.cell h.c10 hne, hg.cell h.c11 hne, hg.cell h.c12 hne, hg.cell h.c13 hne, hg.cell h.c14 hne, hg.cell h.c15 hne, fun j => (World.frozen?_of_block (a := ⟨g, j, none⟩) (hg.block g h.lt hne)).trans (h.fr j)⟩
theorem PvIn.below (h : PvIn w g x) (hb : Below w.heap.size w w') : PvIn w' g x := h.grown (row := none) (grown_of_below hb none) (by simp)
theorem PvIn.alloc (h : PvIn w g x) (b : Obj) : PvIn (w.alloc b) g x := h.below ((Below.refl _ _).alloc (Nat.le_refl _) b)
theorem PvIn.new (w : World) (x : Pv) (T : TypeId) : PvIn (w.alloc (.cells #[.int .i64 x.t, .slice x.pr.p x.pr.n x.pr.c, .int .i64 x.eg, .slice x.ed.p x.ed.n x.ed.c, .int .i64 x.ik, .slice x.id.p x.id.n x.id.c, .int .i64 x.am, .slice x.ad.p x.ad.n x.ad.c, .int .i64 x.np, .slice x.ns.p x.ns.n x.ns.c, .int .i64 x.nt, .slice x.nd.p x.nd.n x.nd.c, .int .i64 x.dp, .slice x.ds.p x.ds.n x.ds.c, .slice x.se.p x.se.n x.se.c, .slice x.da.p x.da.n x.da.c] T)) w.heap.size x :=
  ⟨by go_simp, by go_simp, by go_simp, by go_simp, by go_simp, by go_simp, by go_simp, by go_simp, by go_simp, by go_simp, by go_simp, by go_simp, by go_simp, by go_simp, by go_simp, by go_simp, fun j => by go_simp⟩
theorem PvIn.set_ne (h : PvIn w g x) (g' j : Nat) (v : Value) (hne : g ≠ g') : PvIn (w.setCell ⟨g', j, none⟩ v) g x :=
  h.grown (grown_set w g' j v) (by simp; exact hne)
/-- The whole payload stored. -/
def setPv (w : World) (g : Nat) (z : Pv) : World := ((((((((((((((((w.setCell ⟨g, 0, none⟩ (.int .i64 z.t)).setCell ⟨g, 1, none⟩ (.slice z.pr.p z.pr.n z.pr.c)).setCell ⟨g, 2, none⟩ (.int .i64 z.eg)).setCell ⟨g, 3, none⟩ (.slice z.ed.p z.ed.n z.ed.c)).setCell ⟨g, 4, none⟩ (.int .i64 z.ik)).setCell ⟨g, 5, none⟩ (.slice z.id.p z.id.n z.id.c)).setCell ⟨g, 6, none⟩ (.int .i64 z.am)).setCell ⟨g, 7, none⟩ (.slice z.ad.p z.ad.n z.ad.c)).setCell ⟨g, 8, none⟩ (.int .i64 z.np)).setCell ⟨g, 9, none⟩ (.slice z.ns.p z.ns.n z.ns.c)).setCell ⟨g, 10, none⟩ (.int .i64 z.nt)).setCell ⟨g, 11, none⟩ (.slice z.nd.p z.nd.n z.nd.c)).setCell ⟨g, 12, none⟩ (.int .i64 z.dp)).setCell ⟨g, 13, none⟩ (.slice z.ds.p z.ds.n z.ds.c)).setCell ⟨g, 14, none⟩ (.slice z.se.p z.se.n z.se.c)).setCell ⟨g, 15, none⟩ (.slice z.da.p z.da.n z.da.c))
theorem setPv_frozen (w : World) (g : Nat) (z : Pv) (a : Addr) : (setPv w g z).frozen? a = w.frozen? a := by
  unfold setPv
  simp only [World.frozen?_setCell]
theorem setPv_in (h : PvIn w g x) (z : Pv) : PvIn (setPv w g z) g z := by
  have hf := setPv_frozen w g z
  obtain ⟨c0, c1, c2, c3, c4, c5, c6, c7, c8, c9, c10, c11, c12, c13, c14, c15, fr⟩ := h
  unfold setPv at hf ⊢
  exact ⟨by go_simp, by go_simp, by go_simp, by go_simp, by go_simp, by go_simp, by go_simp, by go_simp, by go_simp, by go_simp, by go_simp, by go_simp, by go_simp, by go_simp, by go_simp, by go_simp, fun j => by rw [hf]; exact fr j⟩
theorem setPv_grown (w : World) (g : Nat) (z : Pv) : w.grownBy (setPv w g z) (some g) := by
  unfold setPv
  exact grown_trans (grown_trans (grown_trans (grown_trans (grown_trans (grown_trans (grown_trans (grown_trans (grown_trans (grown_trans (grown_trans (grown_trans (grown_trans (grown_trans (grown_trans (grown_set _ g 0 _) (grown_set _ g 1 _)) (grown_set _ g 2 _)) (grown_set _ g 3 _)) (grown_set _ g 4 _)) (grown_set _ g 5 _)) (grown_set _ g 6 _)) (grown_set _ g 7 _)) (grown_set _ g 8 _)) (grown_set _ g 9 _)) (grown_set _ g 10 _)) (grown_set _ g 11 _)) (grown_set _ g 12 _)) (grown_set _ g 13 _)) (grown_set _ g 14 _)) (grown_set _ g 15 _)
end
theorem PvIn.any {w : World} {g : Nat} {x : Pv} (h : PvIn w g x) : ∃ y0 y1 y2 y3 y4 y5 y6 y7 y8 y9 y10 y11 y12 y13 y14 y15, w.cell? ⟨g, 0, none⟩ = some y0 ∧ w.cell? ⟨g, 1, none⟩ = some y1 ∧ w.cell? ⟨g, 2, none⟩ = some y2 ∧ w.cell? ⟨g, 3, none⟩ = some y3 ∧ w.cell? ⟨g, 4, none⟩ = some y4 ∧ w.cell? ⟨g, 5, none⟩ = some y5 ∧ w.cell? ⟨g, 6, none⟩ = some y6 ∧ w.cell? ⟨g, 7, none⟩ = some y7 ∧ w.cell? ⟨g, 8, none⟩ = some y8 ∧ w.cell? ⟨g, 9, none⟩ = some y9 ∧ w.cell? ⟨g, 10, none⟩ = some y10 ∧ w.cell? ⟨g, 11, none⟩ = some y11 ∧ w.cell? ⟨g, 12, none⟩ = some y12 ∧ w.cell? ⟨g, 13, none⟩ = some y13 ∧ w.cell? ⟨g, 14, none⟩ = some y14 ∧ w.cell? ⟨g, 15, none⟩ = some y15 ∧ ∀ j, w.frozen? ⟨g, j, none⟩ = false := by
  obtain ⟨c0, c1, c2, c3, c4, c5, c6, c7, c8, c9, c10, c11, c12, c13, c14, c15, fr⟩ := h
  exact ⟨_, _, _, _, _, _, _, _, _, _, _, _, _, _, _, _, c0, c1, c2, c3, c4, c5, c6, c7, c8, c9, c10, c11, c12, c13, c14, c15, fr⟩
theorem stored_pv {w W : World} {g : Nat} {z : Pv} (h : PvIn W g z) (hb : Below w.heap.size w W) (hg : w.heap.size ≤ g) (x : Pv) : PvIn (setPv W g x) g x ∧ Below w.heap.size w (setPv W g x) :=
  ⟨setPv_in h x, hb.grown (setPv_grown W g x) hb.size (fun j hj => by cases hj; exact hg)⟩
theorem load_pv {w : World} {g : Nat} {x : Pv} (h : PvIn w g x) : (loadVar 45 ⟨g, 0, none⟩).run Tryz.prog w = .ok (.agg #[.int .i64 x.t, .slice x.pr.p x.pr.n x.pr.c, .int .i64 x.eg, .slice x.ed.p x.ed.n x.ed.c, .int .i64 x.ik, .slice x.id.p x.id.n x.id.c, .int .i64 x.am, .slice x.ad.p x.ad.n x.ad.c, .int .i64 x.np, .slice x.ns.p x.ns.n x.ns.c, .int .i64 x.nt, .slice x.nd.p x.nd.n x.nd.c, .int .i64 x.dp, .slice x.ds.p x.ds.n x.ds.c, .slice x.se.p x.se.n x.se.c, .slice x.da.p x.da.n x.da.c]) w := by
  obtain ⟨c0, c1, c2, c3, c4, c5, c6, c7, c8, c9, c10, c11, c12, c13, c14, c15, fr⟩ := h
  simp [loadVar, go_sem, c0, c1, c2, c3, c4, c5, c6, c7, c8, c9, c10, c11, c12, c13, c14, c15, Result.andThen]
theorem ret_pv {fn : Func} {R : Ending → World → Prop} {a : Act} {w : World} {p u : Nat} {g : Nat} {x : Pv} {v : Value} (h : fn.results = #[.cell p 45, .tmp u]) (hp : a.tmps.getD p undef = .pointer (some ⟨g, 0, none⟩)) (hu : a.tmps.getD u undef = v) (hd : a.defers = [])
    (hh : PvIn w g x) (hR : R (.returned (.tuple #[(.agg #[.int .i64 x.t, .slice x.pr.p x.pr.n x.pr.c, .int .i64 x.eg, .slice x.ed.p x.ed.n x.ed.c, .int .i64 x.ik, .slice x.id.p x.id.n x.id.c, .int .i64 x.am, .slice x.ad.p x.ad.n x.ad.c, .int .i64 x.np, .slice x.ns.p x.ns.n x.ns.c, .int .i64 x.nt, .slice x.nd.p x.nd.n x.nd.c, .int .i64 x.dp, .slice x.ds.p x.ds.n x.ds.c, .slice x.se.p x.se.n x.se.c, .slice x.da.p x.da.n x.da.c]), v])) w) : bodyPost Tryz.prog fn R .ret a w := by
  refine bodyPost_ret (v := .tuple #[(.agg #[.int .i64 x.t, .slice x.pr.p x.pr.n x.pr.c, .int .i64 x.eg, .slice x.ed.p x.ed.n x.ed.c, .int .i64 x.ik, .slice x.id.p x.id.n x.id.c, .int .i64 x.am, .slice x.ad.p x.ad.n x.ad.c, .int .i64 x.np, .slice x.ns.p x.ns.n x.ns.c, .int .i64 x.nt, .slice x.nd.p x.nd.n x.nd.c, .int .i64 x.dp, .slice x.ds.p x.ds.n x.ds.c, .slice x.se.p x.se.n x.se.c, .slice x.da.p x.da.n x.da.c]), v]) ?_ hd hR
  rw [Array.getD_eq_getD_getElem?] at hp hu
  simp [results, h, hp, hu, asAddr, load_pv hh, Result.andThen]
def zeroP : Pv := ⟨0, nilV, 0, nilV, 0, nilV, 0, nilV, 0, nilV, 0, nilV, 0, nilV, nilV, nilV⟩
end Go.Proofs.YtbpmanbpmlkmnaaGreatDoor

namespace Go.Proofs.YtbpmanbpmlkmnaaGreatDoor
open Go.RowKit
set_option linter.unusedVariables false

section
variable {P : Program} (w : World)
theorem run_append_nilz (base : Nat) (t u ty e : TypeId) (i : TypeInfo) (ht : P.underlying t = some (.slice e)) (hu : P.underlying u = some (.int .i64)) (hi : P.info? e = some i) (hz : i.zero = some (.int .u8 0))
    (hsize : i.size = 1) (hby : i.bytes = 1) (n : Nat) (h0 : n ≠ 0) (hn : n ≤ 140737488355328) (hbase : base ≤ w.heap.size) :
    ∃ c w', (Builtin.append_ #[t, u] ty #[.slice none 0 0, .int .i64 n]).run P w = .ok (.slice (some ⟨w.heap.size, 0, none⟩) n c) w' ∧ Own w' base e (.slice (some ⟨w.heap.size, 0, none⟩) n c) (List.replicate n 0) ∧ w.grownBy w' none := by
  have hw : IntKind.i64.wrap (n : Int) = n := by rw [IntKind.wrap_i64]; omega
  have h1 : ¬ ((n : Int) < 0) := by omega
  have h2 : ¬ (281474976710656 < (n : Int)) := by omega
  have ha : ∀ (z : Int) (w' : World), (asInt (.int .i64 z)).run P w' = .ok z w' := fun z w' => by simp [asInt, asIntOf]
  have hw0 : IntKind.i64.wrap 0 = 0 := by decide
  have h63 : ¬ (9223372036854775807 < (n : Int)) := by omega
  have h48 : ¬ (281474976710656 < Builtin.nextslicecap n 0) := by
    have := nextslicecap_le (show 0 < n by omega)
    omega
  have hge := grownCap_ge w n 0 e
  have hcm' : grownCap w n 0 e ≤ maxLen := grownCap_le_maxLen w n 0 e (by unfold maxLen; omega)
  have hroom : ¬ n ≤ 0 := by omega
  refine ⟨grownCap w n 0 e, w.drew.alloc (.cells (((List.replicate n (0 : Int)).map (Value.int .u8)).toArray ++ Builtin.zeroCells (Value.int IntKind.u8 0).cells (grownCap w n 0 e - n)) e), ?_, ?_, ⟨rfl, rfl, rfl, by simp, fun k hk _ => heap_alloc_old w.drew _ hk⟩⟩
  · have hzl : Builtin.zeroCells (Value.int IntKind.u8 0).cells n = ((List.replicate n (0 : Int)).map (Value.int .u8)).toArray := by
      apply Array.ext'
      rw [zeros_list]
    simp [Builtin.append_, run_underlying ht, run_underlying hu, sizeOf, typeInfo, zeroValue, hz, hi, hsize, hby, ha, hw, h1, h2, h0, h63, h48, Question.forced, newRow, grownCap, hzl, Builtin.firstCells]
  · refine ⟨by simp, .inr ⟨w.heap.size, _, _, by simp, hbase, heap_alloc_new w.drew _, by simpa using hge, hcm', ?_, ?_⟩⟩
    · simp [size_zeroCells, Value.cells]
      omega
    · simp only [Array.toList_append, List.length_replicate, Nat.mul_one]
      exact List.take_left' (show (List.map (Value.int IntKind.u8) (List.replicate n (0 : Int))).length = n by rw [List.length_map, List.length_replicate])
theorem wpList_append_nilz {ops : Array Oper} {rest : List Oper} {o : Oper} {a : Act} {Q : Exit → Act → World → Prop} (hgd : o.guard = none) (s x : Operand) (t u : TypeId)
    (ho : o.op = .call { callee := .builtin .append, args := #[s, x], argTypes := #[t, u] })
    (base : Nat) (e : TypeId) (i : TypeInfo) (ht : P.underlying t = some (.slice e)) (hu : P.underlying u = some (.int .i64)) (hi : P.info? e = some i) (hz : i.zero = some (.int .u8 0))
    (hsize : i.size = 1) (hby : i.bytes = 1) (hs : a.eval s = .slice none 0 0) (z : Int) (n : Nat) (hx : a.eval x = .int .i64 z) (hzn : z = n)
    (h0 : n ≠ 0) (hn : n ≤ 140737488355328) (hbase : base ≤ w.heap.size)
    (h : ∀ c w', Own w' base e (.slice (some ⟨w.heap.size, 0, none⟩) n c) (List.replicate n 0) → w.grownBy w' none → wpList P ops Q rest (a.put o.dst (.slice (some ⟨w.heap.size, 0, none⟩) n c)) w') : wpList P ops Q (o :: rest) a w := by
  refine wpList_plain hgd fun K hK => ?_
  subst hzn
  obtain ⟨c, w', hr, h2, h3⟩ := run_append_nilz (P := P) w base t u o.type e i ht hu hi hz hsize hby n h0 hn hbase
  unfold Oper.wp execOp
  simp only [ho, resolve, invoke, builtin, Sem.run_bind, Sem.run_pure, Result.andThen_ok, List.map_toArray, List.map_cons, List.map_nil, hs, hx, hr]
  exact hK _ _ (h c w' h2 h3)
end

/-- A row that was cut to no element. -/
theorem Own.cut0 {w : World} {base : Nat} {e : TypeId} {g n c : Nat} {xs : List Int} (h : Own w base e (.slice (some ⟨g, 0, none⟩) n c) xs) : Own w base e (.slice (some ⟨g, 0, none⟩) 0 c) [] := by
  refine ⟨rfl, ?_⟩
  rcases h.2 with ⟨hv, _⟩ | ⟨g', cap, cur, hv, hbg, hg, hnc, hcm, hcs, htake⟩
  · simp at hv
  · simp at hv
    obtain ⟨rfl, _, rfl⟩ := hv
    exact Or.inr ⟨g, c, cur, rfl, hbg, hg, Nat.zero_le _, hcm, hcs, by simp⟩

set_option maxHeartbeats 400000 in
set_option maxRecDepth 100000 in
theorem grow_nil (n : Nat) (hn : n ≤ 140737488355328) (w : World) :
    Calls Tryz.prog 103 #[.slice none 0 0, .int .i64 n] w fun e w' => ∃ v, e = .returned v ∧ Own w' w.heap.size 5 v [] ∧ Below w.heap.size w w' := by
  obtain ⟨i0, hi0, hz0, hz1, hz2⟩ := info_parts Tryz.infoByte
  by_cases h0 : n = 0
  · subst h0
    go_enter Tryz.func103, Tryz.ntmps103
    go_wp2
    go_ret
    exact ⟨_, rfl, Own.nil _ _ _, Below.refl _ _⟩
  · have hpos : (n : Int) > 0 := by omega
    go_enter Tryz.func103, Tryz.ntmps103
    go_wp2_with (first
      | (at_builtin; go_loud (refine wpList_append_nilz _ rfl _ _ 22 3 rfl w.heap.size 5 i0 Tryz.underlying22 Tryz.underlying3 hi0 hz0 hz1 hz2 rfl _ n rfl (by first | rfl | go_num) h0 hn (Nat.le_refl _) ?_))
      | fail)
    intro c w1 hown hg
    have HO := hidden hown
    have hc := hown.2
    have hcap : n ≤ c := by
      rcases hown.2 with ⟨hv, _⟩ | ⟨g', cap, cur, hv, hbg, hg', hnc, hcm, hcs, htake⟩
      · simp at hv
      · simp at hv
        obtain ⟨rfl, rfl⟩ := hv
        simpa using hnc
    have HB := hidden ((Below.refl w.heap.size w).grown hg (Nat.le_refl _) (by simp))
    clear hown hg hc
    go_wp2
    go_ret
    exact ⟨_, rfl, HO.out.cut0, HB.out⟩

/-- A part: its slice value and its bytes. -/
structure Part where
  p : Option Addr
  n : Nat
  c : Nat
  xs : List Int
/-- The slice of slices holds the parts. -/
structure Parts (w : World) (q : Option Addr) (m d : Nat) (l : List Part) : Prop where
  len : l.length = m
  cap : m ≤ d
  big : d ≤ maxLen
  mem : 0 < m → ∃ g, q = some ⟨g, 0, none⟩ ∧ ∀ j (hj : j < l.length), w.cell? ⟨g, j, none⟩ = some (.slice l[j].p l[j].n l[j].c)
  byt : ∀ x ∈ l, Byt w x.p x.n x.c x.xs
def bytesOf (l : List Part) : List Int := l.flatMap Part.xs
def sizeOf' (l : List Part) : Nat := (l.map Part.n).sum
theorem Parts.below {w w' : World} {q : Option Addr} {m d : Nat} {l : List Part} (h : Parts w q m d l) (hb : Below w.heap.size w w') : Parts w' q m d l :=
  ⟨h.len, h.cap, h.big, fun h0 => by
    obtain ⟨g, e, hc⟩ := h.mem h0
    exact ⟨g, e, fun j hj => cell_below hb _ _ (hc j hj)⟩, fun x hx => (h.byt x hx).below hb⟩
theorem bytesOf_len' {w : World} {l : List Part} (hb : ∀ x ∈ l, Byt w x.p x.n x.c x.xs) : (bytesOf l).length = sizeOf' l := by
  induction l with
  | nil => rfl
  | cons x l ih =>
    have h1 := (hb x (by simp)).len
    have h2 := ih (fun y hy => hb y (by simp [hy]))
    simp only [bytesOf, sizeOf', List.flatMap_cons, List.length_append, List.map_cons, List.sum_cons] at h2 ⊢
    omega
theorem bytesOf_len {w : World} {q : Option Addr} {m d : Nat} {l : List Part} (h : Parts w q m d l) : (bytesOf l).length = sizeOf' l := bytesOf_len' h.byt
theorem bytesOf_rng {w : World} {q : Option Addr} {m d : Nat} {l : List Part} (h : Parts w q m d l) : ∀ z ∈ bytesOf l, 0 ≤ z ∧ z ≤ 255 := by
  intro z hz
  obtain ⟨x, hx, hzx⟩ := List.mem_flatMap.1 hz
  exact (h.byt x hx).rng z hzx
theorem sizeOf_take (l : List Part) (j : Nat) (hj : j < l.length) : sizeOf' (l.take (j + 1)) = sizeOf' (l.take j) + l[j].n := by
  unfold sizeOf'
  rw [List.take_succ_eq_append_getElem hj, List.map_append, List.sum_append]
  simp
theorem sizeOf_le (l : List Part) (j : Nat) : sizeOf' (l.take j) ≤ sizeOf' l := by
  unfold sizeOf'
  conv => rhs; rw [← List.take_append_drop j l]
  rw [List.map_append, List.sum_append]
  omega
theorem bytesOf_take (l : List Part) (j : Nat) (hj : j < l.length) : bytesOf (l.take (j + 1)) = bytesOf (l.take j) ++ l[j].xs := by
  unfold bytesOf
  rw [List.take_succ_eq_append_getElem hj, List.flatMap_append]
  simp

set_option maxHeartbeats 1600000 in
set_option maxRecDepth 100000 in
theorem concat_any (q : Option Addr) (m d : Nat) (l : List Part) (w : World) (h : Parts w q m d l) (hs : sizeOf' l ≤ 140737488355328) :
    Calls Tryz.prog 88 #[.slice q m d] w fun e w' => ∃ v, e = .returned v ∧ Own w' w.heap.size 5 v (bytesOf l) ∧ Below w.heap.size w w' := by
  obtain ⟨i0, hi0, hz0, hz1, hz2⟩ := info_parts Tryz.infoByte
  have H := hidden h
  have hm := h.cap
  have hbig := h.big
  unfold maxLen at hbig
  have HL := hidden h.len
  have HS := hidden (sizeOf_le l)
  clear h
  go_enter Tryz.func88, Tryz.ntmps88
  go_upto_region 3 with fail
  go_wp2_with fail
  go_loopw [3, 11] (fun z i wr => ∃ j : Nat, j ≤ m ∧ i = .int .i64 j ∧ z = .int .i64 (sizeOf' (l.take j) : Nat) ∧ wr = w) (fun _ i _ => m - (intOf i).toNat)
  case atStart => exact ⟨0, by omega, rfl, rfl, rfl⟩
  case round =>
    obtain ⟨j, hj, rfl, rfl, rfl⟩ := hrel
    by_cases hlt : j < m
    · have hlt' : (j : Int) < m := by omega
      have hjl : j < l.length := by rw [HL.out]; exact hlt
      obtain ⟨g, rfl, hc⟩ := H.out.mem (by omega)
      have c0 := hc j hjl
      have hst := sizeOf_take l j hjl
      have hsl := HS.out (j + 1)
      have hny := (H.out.byt _ (List.getElem_mem hjl)).len
      generalize l[j] = x at *
      obtain ⟨xp, xn, xc, xx⟩ := x
      simp only at c0 hst
      obtain ⟨S, hS⟩ : ∃ S, sizeOf' (l.take j) = S := ⟨_, rfl⟩
      obtain ⟨S', hS'⟩ : ∃ S, sizeOf' (l.take (j + 1)) = S := ⟨_, rfl⟩
      have HS' := hidden hS'
      rw [hS, hS'] at hst
      rw [hS'] at hsl
      rw [hS]
      have hw : IntKind.i64.wrap ((S : Int) + xn) = (S : Int) + xn := by rw [IntKind.wrap_i64]; omega
      have hnn : ¬ ((S : Int) + xn < 0) := by omega
      clear hc hny hS hS'
      go_wp2
      go_roundw
      case rel => exact ⟨j + 1, by omega, by go_num, by rw [HS'.out, hst]; simp, trivial⟩
      case measure => simp [intOf]; omega
    · obtain rfl : j = m := by omega
      rename World => w0
      have hst : sizeOf' (l.take j) = sizeOf' l := by rw [List.take_of_length_le (by rw [HL.out]; exact Nat.le_refl _)]
      rw [hst]
      go_upto_region 11 with (first
        | (go_at_call 103; (with_reducible refine (grow_nil (sizeOf' l) hs _).mono ?_); rintro e w1 ⟨v1, rfl, ho, hb⟩; have HO := hidden ho; have HB := hidden hb; clear ho hb)
        | fail)
      go_wp2_with fail
      go_loopw [6, 27] (fun v i wx => ∃ k : Nat, k ≤ j ∧ i = .int .i64 k ∧ Own wx w0.heap.size 5 v (bytesOf (l.take k)) ∧ Below w0.heap.size w0 wx) (fun _ i _ => j - (intOf i).toNat)
      case atStart => exact ⟨0, by omega, rfl, HO.out, HB.out⟩
      case round =>
        obtain ⟨k, hk, rfl, ho, hb⟩ := hrel
        have HO := hidden ho
        have HB := hidden hb
        by_cases hlt : k < j
        · have hlt' : (k : Int) < j := by omega
          have hkl : k < l.length := by rw [HL.out]; exact hlt
          obtain ⟨g, rfl, hc⟩ := (H.out.below hb).mem (by omega)
          have c0 := hc k hkl
          have hbt := bytesOf_take l k hkl
          have hst2 := sizeOf_take l k hkl
          have hsl := HS.out (k + 1)
          have HY := hidden ((H.out.byt _ (List.getElem_mem hkl)).below hb)
          have hlen : (bytesOf (l.take k)).length = sizeOf' (l.take k) := bytesOf_len' (w := w0) (fun x hx => H.out.byt x (List.mem_of_mem_take hx))
          generalize l[k] = x at *
          obtain ⟨xp, xn, xc, xx⟩ := x
          simp only at c0 hst2 hbt HY
          have HBT := hidden hbt
          have hroom : (bytesOf (l.take k)).length + xn ≤ 140737488355328 := by omega
          clear hc hbt hlen hst2 hsl ho hb
          go_wp2_with (first
            | (at_builtin; go_loud (refine wpList_append_byt _ rfl _ _ 22 rfl w0.heap.size 5 i0 (.int .u8 0) Tryz.underlying22 hi0 hz0 hz1 hz2 rfl _ _ rfl HO.out _ _ _ _ _ rfl HY.out rfl hroom HB.out.size ?_))
            | fail)
          intro v2 w2 ho2 hg2
          have HB2 := hidden (HB.out.grown hg2 HB.out.size (fun i hi => (HO.out.lt i hi).1))
          rw [← HBT.out] at ho2
          have HO2 := hidden ho2
          clear ho2 hg2 HO HB
          go_wp2
          go_roundw
          case rel => exact ⟨k + 1, by omega, by go_num, HO2.out, HB2.out⟩
          case measure => simp [intOf]; omega
        · obtain rfl : k = j := by omega
          have hbt : bytesOf (l.take k) = bytesOf l := by rw [List.take_of_length_le (by rw [HL.out]; exact Nat.le_refl _)]
          rw [hbt] at HO
          clear ho hb
          go_wp2
          go_ret
          exact ⟨_, rfl, HO.out, HB.out⟩
end Go.Proofs.YtbpmanbpmlkmnaaGreatDoor

namespace Go.Proofs.YtbpmanbpmlkmnaaGreatDoor
open Go.RowKit
set_option linter.unusedVariables false

/-- The slice reads as the bytes, and where there is one, it lies at block base or beyond. -/
structure Frs (w : World) (base : Nat) (p : Option Addr) (n c : Nat) (xs : List Int) : Prop where
  byt : Byt w p n c xs
  own : 0 < n → ∃ b o, p = some ⟨b, o, none⟩ ∧ base ≤ b
theorem Bod.frs {w : World} {base : Nat} {p : Option Addr} {n c : Nat} {xs : List Int} (h : Bod w base p n c xs) : Frs w base p n c xs :=
  ⟨h.byt, fun h0 => by
    obtain ⟨b, o, cur, fz, e, hb, -⟩ := h.own h0
    exact ⟨b, o, e, hb⟩⟩
theorem Own.frs {w : World} {base : Nat} {v : Value} {xs : List Int} {n : Nat} (h : Own w base 5 v xs) (hl : xs.length = n) (hr : ∀ x ∈ xs, 0 ≤ x ∧ x ≤ 255) : ∃ p c, v = .slice p n c ∧ Frs w base p n c xs := by
  obtain ⟨p, c, e, hb⟩ := h.bod hl hr
  exact ⟨p, c, e, hb.frs⟩
section
variable {w w' : World} {base : Nat} {p : Option Addr} {n c : Nat} {xs : List Int}
theorem Frs.mono {base' : Nat} (h : Frs w base p n c xs) (hb : base' ≤ base) : Frs w base' p n c xs :=
  ⟨h.byt, fun h0 => by
    obtain ⟨b, o, e, hb'⟩ := h.own h0
    exact ⟨b, o, e, by omega⟩⟩
theorem Frs.low {k : Nat} (h : Frs w base p n c xs) (hg : w.grownBy w' (some k)) (hk : k < base) : Frs w' base p n c xs := by
  rcases Nat.eq_zero_or_pos n with h0 | h0
  · have hx : xs = [] := List.eq_nil_of_length_eq_zero (h.byt.len.trans h0)
    subst h0 hx
    exact ⟨Byt.nil _ _ _ h.byt.big, fun h => by omega⟩
  · obtain ⟨b, o, rfl, hb⟩ := h.own h0
    refine ⟨⟨h.byt.len, h.byt.cap, h.byt.big, h.byt.rng, fun hn => ?_⟩, fun _ => ⟨b, o, rfl, hb⟩⟩
    obtain ⟨b', o', e, hc⟩ := h.byt.mem hn
    injection e with e
    injection e with e1 e2
    subst e1 e2
    exact ⟨b, o, rfl, fun i hi => hg.cell (hc i hi) (by simp; omega)⟩
theorem Frs.below (h : Frs w base p n c xs) (hb : Below w.heap.size w w') : Frs w' base p n c xs := ⟨h.byt.below hb, h.own⟩
theorem Frs.alloc (h : Frs w base p n c xs) (o : Obj) : Frs (w.alloc o) base p n c xs := ⟨h.byt.alloc o, h.own⟩
end
theorem Frs.nil (w : World) (base : Nat) (p : Option Addr) (c : Nat) (hc : c ≤ maxLen) : Frs w base p 0 c [] := ⟨Byt.nil _ _ _ hc, fun h => by omega⟩

section
variable {P : Program} (w : World)
theorem run_append_full (base : Nat) (t ty e : TypeId) (i : TypeInfo) (z : Value) (ht : P.underlying t = some (.slice e)) (hi : P.info? e = some i) (hz : i.zero = some z)
    (hsize : i.size = 1) (hby : i.bytes = 1) (hzs : z.cells.size = 1) (b off n : Nat) (xs : List Int) (hx : Byt w (some ⟨b, off, none⟩) n n xs) (hb : base ≤ b) (hn0 : 0 < n)
    (p : Option Addr) (m c : Nat) (ys : List Int) (hy : Byt w p m c ys) (hlim : n + m ≤ 140737488355328) (hbase : base ≤ w.heap.size) :
    ∃ q d w', (Builtin.append_ #[t, t] ty #[.slice (some ⟨b, off, none⟩) n n, .slice p m c]).run P w = .ok (.slice q (n + m) d) w' ∧ Frs w' base q (n + m) d (xs ++ ys) ∧ w.grownBy w' none := by
  have hl := hy.len
  have hsame : m = 0 → Frs w base (some ⟨b, off, none⟩) (n + m) n (xs ++ ys) := fun h0 => by
    subst h0
    obtain rfl : ys = [] := List.eq_nil_of_length_eq_zero hl
    rw [List.append_nil]
    exact ⟨hx, fun _ => ⟨b, off, rfl, hb⟩⟩
  cases p with
  | none =>
    have hm : m = 0 := by
      rcases Nat.eq_zero_or_pos m with h0 | h0
      · exact h0
      · obtain ⟨b, o, h, _⟩ := hy.at_ h0
        cases h
    refine ⟨some ⟨b, off, none⟩, n, w, ?_, hsame hm, World.grownBy.refl w _⟩
    subst hm
    simp [Builtin.append_, run_underlying ht, sizeOf, typeInfo, hi, Builtin.lenOf, Builtin.firstCells, storeCells]
  | some a =>
    rcases Nat.eq_zero_or_pos m with h0 | h0
    · refine ⟨some ⟨b, off, none⟩, n, w, ?_, hsame h0, World.grownBy.refl w _⟩
      subst h0
      have hrun := run_append_room_cells (P := P) w t ty e i ht hi b off n n a 0 c [] (by simp) (fun j u hj => by simp at hj) (fun u hu => by cases hu) (by omega) (fun j hj => by simp at hj) (fun j hj => by simp at hj)
      rw [hrun]
      rfl
    · obtain ⟨v', w', hrun, r1, r2⟩ := run_append_arg_grows (P := P) w t ty e i z 1 1 ht hi hz hsize hby hzs (by decide) ⟨b, off, none⟩ n n (xs.map (Value.int .u8)) (by simp [hx.len]) (fun j u hj => hx.src j u hj) a m c (ys.map (Value.int .u8)) (by simp [hl]) (fun j u hj => hy.src j u hj) (by omega) (by unfold maxLen; omega) (by omega)
      have hown : w'.ownsRow w.heap.size e 1 v' (n + m) ((xs ++ ys).map (Value.int .u8)) := by rw [List.map_append]; exact r1
      obtain ⟨q, d, rfl, hby2⟩ := Byt.of_own hown (rng_append hx.rng hy.rng)
      refine ⟨q, d, w', hrun, ⟨hby2, fun hp => ?_⟩, r2⟩
      rcases hown.2 with ⟨hv, hz0⟩ | ⟨g, cap, cur, hv, hg, _⟩
      · simp at hv; omega
      · simp at hv
        exact ⟨g, 0, hv.1, by omega⟩
theorem step_append_full {ops : Array Oper} {o : Oper} {a : Act} {K : Act → World → Prop} {Q : Exit → Act → World → Prop} {E : Prop} (hw : Region.wanted o (yielded ops a.tmps) = true) (s x : Operand) (t : TypeId)
    (ho : o.op = .call { callee := .builtin .append, args := #[s, x], argTypes := #[t, t] })
    (base : Nat) (e : TypeId) (i : TypeInfo) (z : Value) (ht : P.underlying t = some (.slice e)) (hi : P.info? e = some i) (hz : i.zero = some z)
    (hsize : i.size = 1) (hby : i.bytes = 1) (hzs : z.cells.size = 1) (b off n : Nat) (xs : List Int) (hs : a.eval s = .slice (some ⟨b, off, none⟩) n n) (hx : Byt w (some ⟨b, off, none⟩) n n xs) (hb : base ≤ b) (hn0 : 0 < n)
    (p : Option Addr) (m c : Nat) (ys : List Int) (hxv : a.eval x = .slice p m c) (hy : Byt w p m c ys) (hlim : n + m ≤ 140737488355328) (hbase : base ≤ w.heap.size)
    (h : ∀ q d w', Frs w' base q (n + m) d (xs ++ ys) → w.grownBy w' none → K (a.put o.dst (.slice q (n + m) d)) w') :
    if Region.wanted o (yielded ops a.tmps) = true then Oper.wp P o a w K Q else E := by
  rw [if_pos hw]
  obtain ⟨q, d, w', hr, h2, h3⟩ := run_append_full (P := P) w base t o.type e i z ht hi hz hsize hby hzs b off n xs hx hb hn0 p m c ys hy hlim hbase
  unfold Oper.wp execOp
  simp only [ho, resolve, invoke, builtin, Sem.run_bind, Sem.run_pure, Result.andThen_ok, List.map_toArray, List.map_cons, List.map_nil, hs, hxv, hr]
  exact h q d w' h2 h3
end

/-- Bytes that a function returns. -/
def GotF (w : World) (ys : List Int) (e : Ending) (w' : World) : Prop := ∃ q d, e = .returned (.slice q ys.length d) ∧ Frs w' w.heap.size q ys.length d ys ∧ Below w.heap.size w w'
theorem four_byt (w : World) (a b c d : Int) (T : TypeId) (ha : 0 ≤ a ∧ a ≤ 255) (hb : 0 ≤ b ∧ b ≤ 255) (hc : 0 ≤ c ∧ c ≤ 255) (hd : 0 ≤ d ∧ d ≤ 255) : Byt (w.alloc (.cells #[.int .u8 a, .int .u8 b, .int .u8 c, .int .u8 d] T)) (some ⟨w.heap.size, 0, none⟩) 4 4 [a, b, c, d] :=
  ⟨rfl, Nat.le_refl _, by decide, fun x hx => by simp at hx; rcases hx with rfl | rfl | rfl | rfl <;> assumption, fun _ => ⟨w.heap.size, 0, rfl, fun i hi => by
    have : i = 0 ∨ i = 1 ∨ i = 2 ∨ i = 3 := by simp at hi; omega
    rcases this with rfl | rfl | rfl | rfl <;> go_simp⟩⟩

set_option maxHeartbeats 800000 in
set_option maxRecDepth 100000 in
theorem before_any (a b c d : Int) (ha : 0 ≤ a ∧ a ≤ 255) (hb : 0 ≤ b ∧ b ≤ 255) (hc : 0 ≤ c ∧ c ≤ 255) (hd : 0 ≤ d ∧ d ≤ 255) (q : Option Addr) (m e : Nat) (l : List Part) (w : World) (h : Parts w q m e l) (hs : sizeOf' l ≤ 140737488355000) (L : List Int) (hL : [a, b, c, d] ++ bytesOf l = L) :
    Calls Tryz.prog 59 #[.agg #[.int .u8 a, .int .u8 b, .int .u8 c, .int .u8 d], .slice q m e] w (GotF w L) := by
  obtain ⟨i0, hi0, hz0, hz1, hz2⟩ := info_parts Tryz.infoByte
  have hl := bytesOf_len h
  have hr := bytesOf_rng h
  obtain ⟨X, hX⟩ : ∃ X, bytesOf l = X := ⟨_, rfl⟩
  have HC := hidden (fun wx (h : Parts wx q m e l) => concat_any q m e l wx h (by omega))
  rw [hX] at hl hr hL HC
  have hN : 4 + X.length = L.length := by rw [← hL]; simp; omega
  have HP := hidden ((h.below ((Below.refl _ w).alloc (Nat.le_refl _) (.cells #[.int .u8 a, .int .u8 b, .int .u8 c, .int .u8 d] 110))).below (w' := (w.alloc (.cells #[.int .u8 a, .int .u8 b, .int .u8 c, .int .u8 d] 110)).drew) (drew_below ⟨1, rfl⟩))
  have HB := hidden (((Below.refl w.heap.size w).alloc (Nat.le_refl _) (.cells #[.int .u8 a, .int .u8 b, .int .u8 c, .int .u8 d] 110)).trans (drew_below (B := w.heap.size) (w' := (w.alloc (.cells #[.int .u8 a, .int .u8 b, .int .u8 c, .int .u8 d] 110)).drew) ⟨1, rfl⟩))
  have HF := hidden ((four_byt w a b c d 110 ha hb hc hd).below (w' := (w.alloc (.cells #[.int .u8 a, .int .u8 b, .int .u8 c, .int .u8 d] 110)).drew) (drew_below ⟨1, rfl⟩))
  have HL := hidden hL
  have HR := hidden hr
  have hXb : X.length ≤ 140737488355000 := by omega
  have HN := hidden hN
  clear h hL hr hX hl hN
  go_enter Tryz.func59, Tryz.ntmps59
  go_wp2_with fail
  go_region_law (first
    | (go_simp; go_at_call 88; (with_reducible refine (HC.out _ HP.out).mono ?_); rintro e w1 ⟨v1, rfl, ho, hb1⟩; obtain ⟨p1, c1, rfl, hy⟩ := ho.byt HR.out; have HF1 := HF.out.below hb1; have HB1 := HB.out.trans (hb1.mono HB.out.size))
    | (refine step_append_full _ (by rfl) _ _ 22 (by rfl) w.heap.size 5 i0 (.int .u8 0) Tryz.underlying22 hi0 hz0 hz1 hz2 rfl w.heap.size 0 4 _ (by rfl) HF1 (Nat.le_refl _) (by omega) _ _ _ X (by rfl) hy (by omega) HB1.size ?_; intro q2 d2 w2 hf2 hg2))
  all_goals
    have hB2 := HB1.grown hg2 HB1.size (fun j hj => by cases hj)
    go_wp2
    go_ret
    rw [HL.out, HN.out] at hf2
    exact ⟨q2, d2, by rw [← HN.out]; rfl, hf2, hB2⟩
end Go.Proofs.YtbpmanbpmlkmnaaGreatDoor

namespace Go.Proofs.YtbpmanbpmlkmnaaGreatDoor
open Go.RowKit
set_option linter.unusedVariables false

/-- A parser at block k: its bytes, and how many of them are read. -/
structure PS (w : World) (k : Nat) (p : Option Addr) (n c : Nat) (xs : List Int) (a : Nat) : Prop where
  cu : Cu w k p n c a
  byt : ∃ W, Byt W p n c xs ∧ Below W.heap.size W w ∧ W.heap.size ≤ k
  le : a ≤ n
section
variable {w w' : World} {k : Nat} {p : Option Addr} {n c : Nat} {xs : List Int} {a b : Nat}
theorem PS.here (h : PS w k p n c xs a) : Byt w p n c xs := by
  obtain ⟨W, h1, h2, _⟩ := h.byt
  exact h1.below h2
theorem PS.next (h : PS w k p n c xs a) (hg : w.grownBy w' (some k)) (hc : Cu w' k p n c (b : Nat)) (hb : b ≤ n) : PS w' k p n c xs b := by
  obtain ⟨W, h1, h2, h3⟩ := h.byt
  exact ⟨hc, ⟨W, h1, h2.grown hg h2.size (fun r hr => by cases hr; exact h3), h3⟩, hb⟩
theorem PS.off {row : Option Nat} (h : PS w k p n c xs a) (hg : w.grownBy w' row) (hr : ∀ r, row = some r → k < r) : PS w' k p n c xs a := by
  obtain ⟨W, h1, h2, h3⟩ := h.byt
  exact ⟨h.cu.grown hg (fun e => by have := hr k e.symm; omega), ⟨W, h1, h2.grown hg h2.size (fun r e => by have := hr r e; omega), h3⟩, h.le⟩
theorem PS.below (h : PS w k p n c xs a) (hb : Below w.heap.size w w') : PS w' k p n c xs a := h.off (row := none) (grown_of_below hb none) (by simp)
theorem PS.lt (h : PS w k p n c xs a) : k < w.heap.size := h.cu.lt
end

theorem pn1 (p : Option Addr) (n c : Nat) (xs : List Int) (w : World) (k a : Nat) (h : PS w k p n c xs a) (v : Int) (hv : xs.getD a 0 = v) :
    Calls Tryz.prog 128 #[.pointer (some ⟨k, 0, none⟩), .int .i64 1] w fun e w' => w.grownBy w' (some k) ∧ ((a + 1 ≤ n ∧ e = .returned (.int .i64 v) ∧ PS w' k p n c xs (a + 1)) ∨ (n < a + 1 ∧ Thrown e)) := by
  refine (pnum_any p n c xs w k a 1 h.cu h.here (by omega) (by omega) h.le _ rfl 1 rfl).mono ?_
  rintro e w' ⟨hg, ⟨h1, rfl, hc⟩ | ⟨h1, ht⟩⟩
  · exact ⟨hg, Or.inl ⟨h1, by rw [num_one _ _ (by have := h.here.len; omega), hv], h.next hg hc h1⟩⟩
  · exact ⟨hg, Or.inr ⟨h1, ht⟩⟩
theorem pn2 (p : Option Addr) (n c : Nat) (xs : List Int) (w : World) (k a : Nat) (h : PS w k p n c xs a) (v : Int) (hv : w2 xs a = v) :
    Calls Tryz.prog 128 #[.pointer (some ⟨k, 0, none⟩), .int .i64 2] w fun e w' => w.grownBy w' (some k) ∧ ((a + 2 ≤ n ∧ e = .returned (.int .i64 v) ∧ PS w' k p n c xs (a + 2)) ∨ (n < a + 2 ∧ Thrown e)) := by
  refine (pnum_any p n c xs w k a 2 h.cu h.here (by omega) (by omega) h.le _ rfl 2 rfl).mono ?_
  rintro e w' ⟨hg, ⟨h1, rfl, hc⟩ | ⟨h1, ht⟩⟩
  · exact ⟨hg, Or.inl ⟨h1, by rw [num_two _ _ (by have := h.here.len; omega), hv], h.next hg hc h1⟩⟩
  · exact ⟨hg, Or.inr ⟨h1, ht⟩⟩
theorem pl (p : Option Addr) (n c : Nat) (xs : List Int) (w : World) (k a : Nat) (h : PS w k p n c xs a) (b : Bool) (hb : b = decide (a < n)) :
    Calls Tryz.prog 120 #[.pointer (some ⟨k, 0, none⟩)] w fun e w' => e = .returned (.bool b) ∧ Below w.heap.size w w' ∧ PS w' k p n c xs a :=
  (left_any p n c w k a h.cu h.here.le b (by rw [hb]; simp)).mono fun e w' ⟨h1, h2⟩ => ⟨h1, h2, h.below h2⟩
theorem pt (p : Option Addr) (n c : Nat) (xs : List Int) (w : World) (k a : Nat) (h : PS w k p n c xs a) (hn : n ≤ 140737488355328) (M : Int) (hM : -9223372036854775808 ≤ M ∧ M ≤ 9223372036854775807) :
    Calls Tryz.prog 129 #[.pointer (some ⟨k, 0, none⟩), .int .i64 M] w fun e w' => w.grownBy w' (some k) ∧ ((0 ≤ M ∧ a + M ≤ n ∧ ∃ q m d, e = .returned (.slice q m d) ∧ Bod w' w.heap.size q m d ((xs.drop a).take M.toNat) ∧ PS w' k p n c xs (a + M.toNat)) ∨ (¬ (0 ≤ M ∧ a + M ≤ n) ∧ Thrown e)) := by
  refine (ptake_any p n c xs w k a h.cu h.here hn h.le M hM).mono ?_
  rintro e w' ⟨hg, ⟨h1, h2, q, m, d, he, hby, hc⟩ | ⟨h1, ht⟩⟩
  · exact ⟨hg, Or.inl ⟨h1, h2, q, m, d, he, hby, h.next hg (by rw [show ((a + M.toNat : Nat) : Int) = a + M by omega]; exact hc) (by omega)⟩⟩
  · exact ⟨hg, Or.inr ⟨h1, ht⟩⟩

/-- A section: its inside, and how many bytes it has. -/
def secV (more : Int) (ys : List Int) : Option (List Int × Nat) :=
  if ys.length < 4 then none else if w2 ys 2 < 4 ∨ (ys.length : Int) < w2 ys 2 then none
  else if ys.getD 0 0 ≠ (if (ys.length : Int) = w2 ys 2 then 0 else more) then none else some ((ys.take (w2 ys 2).toNat).drop 4, (w2 ys 2).toNat)

/-- What section returns. -/
def GotS (w : World) (k : Nat) (p : Option Addr) (n c : Nat) (xs : List Int) (a : Nat) (r : Option (List Int × Nat)) (e : Ending) (w' : World) : Prop :=
  w.grownBy w' (some k) ∧ match r with
  | none => Thrown e
  | some x => ∃ R q m d, e = .returned (.pointer (some ⟨R, 0, none⟩)) ∧ w.heap.size ≤ R ∧ PS w' R q m d x.1 0 ∧ PS w' k p n c xs (a + x.2)
theorem gots_none {w : World} {k : Nat} {p : Option Addr} {n c : Nat} {xs : List Int} {a : Nat} {r : Option (List Int × Nat)} {e : Ending} {w' : World} (hg : w.grownBy w' (some k)) (hr : r = none) (ht : Thrown e) : GotS w k p n c xs a r e w' := by
  subst hr
  exact ⟨hg, ht⟩

theorem getD_dropP (xs : List Int) (a b : Nat) : (xs.drop a).getD b 0 = xs.getD (a + b) 0 := by simp [List.getD_eq_getElem?_getD]
theorem w2_dropP (xs : List Int) (a b : Nat) : w2 (xs.drop a) b = w2 xs (a + b) := by rw [w2, getD_dropP, getD_dropP, w2, Nat.add_assoc]
theorem w2_bdP (xs : List Int) (hr : ∀ x ∈ xs, 0 ≤ x ∧ x ≤ 255) (a : Nat) : 0 ≤ w2 xs a ∧ w2 xs a ≤ 65535 := by
  have h0 := rng_getD hr a
  have h1 := rng_getD hr (a + 1)
  unfold w2
  omega

theorem secV_at (more : Int) (xs : List Int) (n a : Nat) (hl : xs.length = n) (L x0 : Int) (hL : w2 xs (a + 2) = L) (hx : xs.getD a 0 = x0) : secV more (xs.drop a) =
    if n - a < 4 then none else if L < 4 ∨ ((n - a : Nat) : Int) < L then none else if x0 ≠ (if ((n - a : Nat) : Int) = L then 0 else more) then none else some (((xs.drop a).take L.toNat).drop 4, L.toNat) := by
  subst hL hx hl
  have e : xs.getD a 0 = (xs.drop a).getD 0 0 := by rw [getD_dropP]; rfl
  rw [e]
  unfold secV
  rw [List.length_drop, w2_dropP]

set_option maxHeartbeats 800000 in
theorem section_any (more : Int) (p : Option Addr) (n c : Nat) (xs : List Int) (w : World) (k a : Nat) (h : PS w k p n c xs a) (hn : n ≤ 1048576) (r : Option (List Int × Nat)) (hr : secV more (xs.drop a) = r) :
    Calls Tryz.prog 121 #[.pointer (some ⟨k, 0, none⟩), .int .i64 more] w (GotS w k p n c xs a r) := by
  have hlen := h.here.len
  have hrng := h.here.rng
  have hd : (xs.drop a).length = n - a := by simp [hlen]
  have hle := h.le
  obtain ⟨L, hL⟩ : ∃ L, w2 xs (a + 2) = L := ⟨_, rfl⟩
  have hLb := w2_bdP xs hrng (a + 2)
  rw [hL] at hLb
  obtain ⟨x0, hx0⟩ : ∃ x0, xs.getD a 0 = x0 := ⟨_, rfl⟩
  have hxb := rng_getD hrng a
  rw [hx0] at hxb
  rw [secV_at more xs n a hlen L x0 hL hx0] at hr
  obtain ⟨x1, hx1⟩ : ∃ x1, xs.getD (a + 1) 0 = x1 := ⟨_, rfl⟩
  have HR := hidden hr
  have HP := hidden h
  have HX0 := hidden hx0
  have HX1 := hidden hx1
  have HL := hidden hL
  clear hr h hx0 hx1 hL hrng hlen hd
  go_enter Tryz.func121, Tryz.ntmps121
  go_wp2_with fail
  go_at_call 128
  (with_reducible refine (pn1 p n c xs w k a HP.out x0 HX0.out).mono ?_)
  rintro e w1 ⟨hg1, ⟨hi1, rfl, hps1⟩ | ⟨hi1, ht⟩⟩
  rotate_left
  · subst ht
    exact ⟨rfl, gots_none hg1 (by rw [← HR.out, if_pos (by omega)]) rfl⟩
  have HP1 := hidden hps1
  have HG1 := hidden hg1
  clear hps1 hg1
  go_wp2_with fail
  go_at_call 128
  (with_reducible refine (pn1 p n c xs w1 k (a + 1) HP1.out x1 HX1.out).mono ?_)
  rintro e w2 ⟨hg2, ⟨hi2, rfl, hps2⟩ | ⟨hi2, ht⟩⟩
  rotate_left
  · subst ht
    exact ⟨rfl, gots_none (grown_trans HG1.out hg2) (by rw [← HR.out, if_pos (by omega)]) rfl⟩
  have HP2 := hidden hps2
  have HG2 := hidden (grown_trans HG1.out hg2)
  clear hps2 hg2 HG1 HP1
  go_wp2_with fail
  go_at_call 128
  (with_reducible refine (pn2 p n c xs w2 k (a + 2) HP2.out L HL.out).mono ?_)
  rintro e w3 ⟨hg3, ⟨hi3, rfl, hps3⟩ | ⟨hi3, ht⟩⟩
  rotate_left
  · subst ht
    exact ⟨rfl, gots_none (grown_trans HG2.out hg3) (by rw [← HR.out, if_pos (by omega)]) rfl⟩
  have HP3 := hidden hps3
  have HG3 := hidden (grown_trans HG2.out hg3)
  clear hps3 hg3 HG2 HP2
  have HR4 := hidden HR.out
  have hr := HR.out
  rw [if_neg (by omega)] at hr
  have HR4 := hidden hr
  clear hr HR
  go_wp2_with fail
  go_at_call 129
  (with_reducible refine (pt p n c xs w3 k (a + 2 + 2) HP3.out (by omega) (L - 4) (by omega)).mono ?_)
  rintro e w4 ⟨hg4, ⟨hi4, hi5, q, m, d, rfl, hby, hps4⟩ | ⟨hi4, ht⟩⟩
  rotate_left
  · subst ht
    exact ⟨rfl, gots_none (grown_trans HG3.out hg4) (by rw [← HR4.out, if_pos (by omega)]) rfl⟩
  have hr := HR4.out
  rw [if_neg (by omega)] at hr
  obtain ⟨l, rfl⟩ := Int.eq_ofNat_of_zero_le hLb.1
  have e1 : ((xs.drop a).take l).drop 4 = (xs.drop (a + 2 + 2)).take ((l : Int) - 4).toNat := by
    rw [show ((l : Int) - 4).toNat = l - 4 by omega, List.drop_take, List.drop_drop]
  rw [Int.toNat_natCast, e1] at hr
  have hm := hby.byt.len
  have hq : PS (w4.alloc (.cells #[.slice q m d, .int .i64 0] 155)) w4.heap.size q m d ((xs.drop (a + 2 + 2)).take ((l : Int) - 4).toNat) 0 :=
    ⟨Cu.new _ _ _ _ _ _, ⟨w4, hby.byt, (Below.refl _ _).alloc (Nat.le_refl _) _, Nat.le_refl _⟩, Nat.zero_le _⟩
  have hp5 := hps4.below ((Below.refl _ _).alloc (Nat.le_refl _) (.cells #[.slice q m d, .int .i64 0] 155))
  rw [show a + 2 + 2 + ((l : Int) - 4).toNat = a + l by omega] at hp5
  have hg5 := grown_alloc_new (grown_trans HG3.out hg4) (.cells #[.slice q m d, .int .i64 0] 155)
  have hs5 : w.heap.size ≤ w4.heap.size := (grown_trans HG3.out hg4).size
  generalize (xs.drop (a + 2 + 2)).take ((l : Int) - 4).toNat = ys at hr hq
  have HQ := hidden hq
  have HP5 := hidden hp5
  have HG5 := hidden hg5
  have HR5 := hidden hr
  clear hq hp5 hg5 hr hby hps4 hg4 HG3 HP3 HR4 e1 hm
  obtain ⟨b, hb⟩ : ∃ b, b = decide (a + l < n) := ⟨_, rfl⟩
  have HB := hidden hb
  clear hb
  go_wp2_with fail
  go_at_call 120
  (with_reducible refine (pl p n c xs _ k (a + l) HP5.out b HB.out).mono ?_)
  rintro e w6 ⟨rfl, hb6, hp6⟩
  have HP6 := hidden hp6
  have HQ6 := hidden (HQ.out.below hb6)
  have HG6 := hidden (grown_trans HG5.out (grown_of_below hb6 _))
  clear hp6 hb6
  obtain ⟨mk, hmk⟩ : ∃ mk, (if b = true then more else 0) = mk := ⟨_, rfl⟩
  have HMK := hidden hmk
  clear hmk
  go_wp2_with (go_at_call 86; (with_reducible refine (mark_any more b _).mono ?_); rintro e w7 ⟨rfl, rfl⟩; rw [HMK.out])
  go_at_call 130
  (refine (need_any _ _).mono ?_)
  have hcond : (x0 == mk) = true ↔ ¬ x0 ≠ (if ((n - a : Nat) : Int) = l then 0 else more) := by
    rw [← HMK.out, HB.out]
    by_cases hh : a + l < n
    · rw [if_neg (show ¬ ((n - a : Nat) : Int) = l by omega)]
      simp [hh]
    · rw [if_pos (show ((n - a : Nat) : Int) = l by omega)]
      simp [hh]
  rintro e w8 ⟨rfl, ⟨ht, rfl⟩ | ⟨ht, hth⟩⟩
  · have hr := HR5.out
    rw [if_neg (hcond.1 ht)] at hr
    have HR6 := hidden hr
    clear hcond ht hr
    go_wp2
    go_ret
    rw [← HR6.out]
    exact ⟨HG6.out, _, q, m, d, rfl, hs5, HQ6.out, HP6.out⟩
  · subst hth
    refine ⟨rfl, gots_none HG6.out ?_ rfl⟩
    rw [← HR5.out, if_pos]
    intro h
    rw [hcond.2 (by simpa using h)] at ht
    cases ht
end Go.Proofs.YtbpmanbpmlkmnaaGreatDoor
