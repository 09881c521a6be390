/-
  Keys that are returned: five slices, two slices.
-/
import Derived.Test.YtgpigjoonhghhaaDoorQCKeyExp
namespace Go.Proofs.YtgpigjoonhghhaaDoor
open Go.RowKit
set_option linter.unusedVariables false
structure K5 (w : World) (g : Nat) (p0 p1 p2 p3 p4 : Option Addr) (n0 n1 n2 n3 n4 c0 c1 c2 c3 c4 : Nat) : Prop where
  z0 : w.cell? ⟨g, 0, none⟩ = some (.slice p0 n0 c0)
  z1 : w.cell? ⟨g, 1, none⟩ = some (.slice p1 n1 c1)
  z2 : w.cell? ⟨g, 2, none⟩ = some (.slice p2 n2 c2)
  z3 : w.cell? ⟨g, 3, none⟩ = some (.slice p3 n3 c3)
  z4 : w.cell? ⟨g, 4, none⟩ = some (.slice p4 n4 c4)
  fr : ∀ j, w.frozen? ⟨g, j, none⟩ = false
structure K2 (w : World) (g : Nat) (p0 p1 : Option Addr) (n0 n1 c0 c1 : Nat) : Prop where
  z0 : w.cell? ⟨g, 0, none⟩ = some (.slice p0 n0 c0)
  z1 : w.cell? ⟨g, 1, none⟩ = some (.slice p1 n1 c1)
  fr : ∀ j, w.frozen? ⟨g, j, none⟩ = false
section
variable {w w' : World} {g : Nat} {p0 p1 p2 p3 p4 : Option Addr} {n0 n1 n2 n3 n4 c0 c1 c2 c3 c4 : Nat}
theorem K5.lt (h : K5 w g p0 p1 p2 p3 p4 n0 n1 n2 n3 n4 c0 c1 c2 c3 c4) : g < w.heap.size := World.block_lt_of_cell? w _ h.z0
theorem K2.lt (h : K2 w g p0 p1 n0 n1 c0 c1) : g < w.heap.size := World.block_lt_of_cell? w _ h.z0
theorem K5.below (h : K5 w g p0 p1 p2 p3 p4 n0 n1 n2 n3 n4 c0 c1 c2 c3 c4) (hb : Below w.heap.size w w') : K5 w' g p0 p1 p2 p3 p4 n0 n1 n2 n3 n4 c0 c1 c2 c3 c4 :=
  ⟨cell_below hb _ _ h.z0, cell_below hb _ _ h.z1, cell_below hb _ _ h.z2, cell_below hb _ _ h.z3, cell_below hb _ _ h.z4, fun j => (World.frozen?_of_block (a := ⟨g, j, none⟩) (hb.block g h.lt)).trans (h.fr j)⟩
theorem K2.below (h : K2 w g p0 p1 n0 n1 c0 c1) (hb : Below w.heap.size w w') : K2 w' g p0 p1 n0 n1 c0 c1 :=
  ⟨cell_below hb _ _ h.z0, cell_below hb _ _ h.z1, fun j => (World.frozen?_of_block (a := ⟨g, j, none⟩) (hb.block g h.lt)).trans (h.fr j)⟩
theorem K5.new (w : World) (T : TypeId) : K5 (w.alloc (.cells #[.slice p0 n0 c0, .slice p1 n1 c1, .slice p2 n2 c2, .slice p3 n3 c3, .slice p4 n4 c4] T)) w.heap.size p0 p1 p2 p3 p4 n0 n1 n2 n3 n4 c0 c1 c2 c3 c4 := by
  constructor <;> (try intro j) <;> go_simp
theorem K2.new (w : World) (T : TypeId) : K2 (w.alloc (.cells #[.slice p0 n0 c0, .slice p1 n1 c1] T)) w.heap.size p0 p1 n0 n1 c0 c1 := by
  constructor <;> (try intro j) <;> go_simp
theorem load_k5 (h : K5 w g p0 p1 p2 p3 p4 n0 n1 n2 n3 n4 c0 c1 c2 c3 c4) : (loadVar 34 ⟨g, 0, none⟩).run Tryd.prog w = .ok (.agg #[.slice p0 n0 c0, .slice p1 n1 c1, .slice p2 n2 c2, .slice p3 n3 c3, .slice p4 n4 c4]) w := by
  obtain ⟨z0, z1, z2, z3, z4, fr⟩ := h
  simp [loadVar, go_sem, z0, z1, z2, z3, z4, Result.andThen]
theorem ret_k5 {fn : Func} {R : Ending → World → Prop} {a : Act} {p u : Nat} {v : Value} (h : fn.results = #[.cell p 34, .tmp u]) (hp : a.tmps.getD p undef = .pointer (some ⟨g, 0, none⟩)) (hu : a.tmps.getD u undef = v) (hd : a.defers = [])
    (hh : K5 w g p0 p1 p2 p3 p4 n0 n1 n2 n3 n4 c0 c1 c2 c3 c4) (hR : R (.returned (.tuple #[.agg #[.slice p0 n0 c0, .slice p1 n1 c1, .slice p2 n2 c2, .slice p3 n3 c3, .slice p4 n4 c4], v])) w) : bodyPost Tryd.prog fn R .ret a w := by
  refine bodyPost_ret (v := .tuple #[.agg #[.slice p0 n0 c0, .slice p1 n1 c1, .slice p2 n2 c2, .slice p3 n3 c3, .slice p4 n4 c4], v]) ?_ hd hR
  rw [results_cell_tmp h]
  simp only [hp]
  simp [Result.andThen, hu, asAddr, load_k5 hh]
end
def To5 (L : Nat → List Int) (E : Int) (w : World) (e : Ending) (w' : World) : Prop :=
  ∃ (p0 p1 p2 p3 p4 : Option Addr) (n0 n1 n2 n3 n4 c0 c1 c2 c3 c4 : Nat), e = .returned (.tuple #[.agg #[.slice p0 n0 c0, .slice p1 n1 c1, .slice p2 n2 c2, .slice p3 n3 c3, .slice p4 n4 c4], .int .i64 E]) ∧
    (Byt w' p0 n0 c0 (L 0) ∧ Byt w' p1 n1 c1 (L 1) ∧ Byt w' p2 n2 c2 (L 2) ∧ Byt w' p3 n3 c3 (L 3) ∧ Byt w' p4 n4 c4 (L 4)) ∧ Below w.heap.size w w'
def To2 (L : Nat → List Int) (E : Int) (w : World) (e : Ending) (w' : World) : Prop :=
  ∃ (p0 p1 : Option Addr) (n0 n1 c0 c1 : Nat), e = .returned (.tuple #[.agg #[.slice p0 n0 c0, .slice p1 n1 c1], .int .i64 E]) ∧ (Byt w' p0 n0 c0 (L 0) ∧ Byt w' p1 n1 c1 (L 1)) ∧ Below w.heap.size w w'
theorem pieces_at {w : World} {base : Nat} {v : Value} {l : List Bl} {L : List (List Int)} (h : RowG KBl NBl w base v l) (hL : l.map Bl.xs = L) (N : Nat) (hN : L.length = N) (h0 : 0 < N) :
    ∃ g c, v = .slice (some ⟨g, 0, none⟩) N c ∧ N ≤ c ∧ c ≤ maxLen ∧ base ≤ g ∧ ∀ j, j < N → ∃ p n c', w.cell? ⟨g, j, none⟩ = some (.slice p n c') ∧ Bod w base p n c' (L.getD j []) := by
  subst hL
  rw [List.length_map] at hN
  obtain ⟨p, c, rfl, hr⟩ := h.bls hN
  obtain ⟨g, rfl, -⟩ := hr.mem h0
  have hg : base ≤ g := (h.lt g rfl).1
  refine ⟨g, c, rfl, hr.cap, hr.big, hg, fun j hj => ?_⟩
  have hjl : j < l.length := by omega
  obtain ⟨g', e, hc, -⟩ := hr.bl j hjl
  cases e
  refine ⟨_, _, _, hc, ?_⟩
  rw [List.getD_eq_getElem?_getD, List.getElem?_map, List.getElem?_eq_getElem hjl]
  exact h.ok _ (List.getElem_mem hjl)
theorem five_set (w : World) (g : Nat) (v0 v1 v2 v3 v4 : Value) : w.grownBy (((((w.setCell ⟨g, 0, none⟩ v0).setCell ⟨g, 1, none⟩ v1).setCell ⟨g, 2, none⟩ v2).setCell ⟨g, 3, none⟩ v3).setCell ⟨g, 4, none⟩ v4) (some g) :=
  grown_trans (grown_trans (grown_trans (grown_trans (grown_set _ _ _ _) (grown_set _ _ _ _)) (grown_set _ _ _ _)) (grown_set _ _ _ _)) (grown_set _ _ _ _)
theorem Bod.stored {w w' : World} {base g : Nat} {p : Option Addr} {n c : Nat} {xs : List Int} (h : Bod w base p n c xs) (hg : w.grownBy w' (some g)) (hb : g < base) : Byt w' p n c xs := (h.grown hg (OffB.low hb)).byt
theorem below_stored {w w1 w' : World} {g B : Nat} (h : Below B w w1) (hg : w1.grownBy w' (some g)) (hb : B ≤ g) (hs : B ≤ w1.heap.size) : Below B w w' := h.grown hg hs (fun k e => by cases e; exact hb)
theorem Byt.over {w : World} {g j n c q1 q2 : Nat} {p q : Option Addr} {xs : List Int} (h : Byt w p n c xs) (z : w.cell? ⟨g, j, none⟩ = some (.slice q q1 q2)) (v : Value) : Byt (w.setCell ⟨g, j, none⟩ v) p n c xs :=
  ⟨h.len, h.cap, h.big, h.rng, fun h0 => by
    obtain ⟨b, o, e, hc⟩ := h.mem h0
    refine ⟨b, o, e, fun i hi => ?_⟩
    refine (World.cell?_setCell_other w _ _ v ?_).trans (hc i hi)
    intro he
    have := hc i hi
    first
      | (rw [← he, z] at this; cases this)
      | (rw [he, z] at this; cases this)⟩
end Go.Proofs.YtgpigjoonhghhaaDoor
