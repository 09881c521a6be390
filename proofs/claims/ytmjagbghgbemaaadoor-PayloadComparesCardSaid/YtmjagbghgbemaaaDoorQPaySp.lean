/-
  The law's own spoil of a payload: one thing is changed; the payload can be read still.
-/
import Derived.Test.YtmjagbghgbemaaaDoorQPayMkB
import Derived.Test.YtmjagbghgbemaaaDoorQSelSpoil
import Derived.Test.YtmjagbghgbemaaaDoorQSelBuild
import Derived.Test.YtmjagbghgbemaaaDoorQSpoil4
import Derived.Deep.RegionLaw
namespace Go.Proofs.YtmjagbghgbemaaaDoor
open Go.RowKit
set_option linter.unusedVariables false

/-- While it is spoilt: the payload's block, the result's block, the choices. -/
structure PyT (W w wx : World) (k : Nat) (x : Pv) : Prop where
  cod : Cod W wx k
  gr : w.grownBy wx (some k)
  R : PvIn wx (w.heap.size + 1) zeroP
  S : PvIn wx w.heap.size x
  ge : w.heap.size + 2 ≤ wx.heap.size
section
variable {W w wx wy : World} {k : Nat} {x : Pv}
theorem PyT.new (h : Cod W w k) (x : Pv) : PyT W w ((w.alloc (.cells #[.int .i64 x.t, .slice x.pr.p x.pr.n x.pr.c, .int .i64 x.eg, .slice x.ed.p x.ed.n x.ed.c, .int .i64 x.ik, .slice x.id.p x.id.n x.id.c, .int .i64 x.am, .slice x.ad.p x.ad.n x.ad.c, .int .i64 x.np, .slice x.ns.p x.ns.n x.ns.c, .int .i64 x.nt, .slice x.nd.p x.nd.n x.nd.c, .int .i64 x.dp, .slice x.ds.p x.ds.n x.ds.c, .slice x.se.p x.se.n x.se.c, .slice x.da.p x.da.n x.da.c] 40)).alloc (.cells #[.int .i64 0, .slice none 0 0, .int .i64 0, .slice none 0 0, .int .i64 0, .slice none 0 0, .int .i64 0, .slice none 0 0, .int .i64 0, .slice none 0 0, .int .i64 0, .slice none 0 0, .int .i64 0, .slice none 0 0, .slice none 0 0, .slice none 0 0] 40)) k x :=
  ⟨(h.alloc _).alloc _, grown_alloc_new (grown_alloc_new (grown_refl w _) _) _, by
    have := PvIn.new (w.alloc (.cells #[.int .i64 x.t, .slice x.pr.p x.pr.n x.pr.c, .int .i64 x.eg, .slice x.ed.p x.ed.n x.ed.c, .int .i64 x.ik, .slice x.id.p x.id.n x.id.c, .int .i64 x.am, .slice x.ad.p x.ad.n x.ad.c, .int .i64 x.np, .slice x.ns.p x.ns.n x.ns.c, .int .i64 x.nt, .slice x.nd.p x.nd.n x.nd.c, .int .i64 x.dp, .slice x.ds.p x.ds.n x.ds.c, .slice x.se.p x.se.n x.se.c, .slice x.da.p x.da.n x.da.c] 40)) zeroP 40
    simpa [zeroP, nilV] using this, (PvIn.new w x 40).alloc _, by simp⟩
theorem PyT.grown (h : PyT W w wx k x) (hk : k < w.heap.size) (hc : Cod W wy k) (hg : wx.grownBy wy (some k)) : PyT W w wy k x :=
  ⟨hc, grown_trans h.gr hg, h.R.grown hg (by simp; omega), h.S.grown hg (by simp; omega), by have := h.ge; have := hg.size; omega⟩
theorem PyT.alloc (h : PyT W w wx k x) (o : Obj) : PyT W w (wx.alloc o) k x := ⟨h.cod.alloc o, grown_alloc_new h.gr o, h.R.alloc o, h.S.alloc o, by have := h.ge; simp; omega⟩
theorem PyT.drew (h : PyT W w wx k x) : PyT W w wx.drew k x :=
  ⟨h.cod.below (drew_below ⟨1, rfl⟩), grown_trans h.gr (grown_drewN wx 1 _), h.R.below (drew_below ⟨1, rfl⟩), h.S.below (drew_below ⟨1, rfl⟩), h.ge⟩
theorem PyT.ret (h : PyT W w wx k x) (hk : k < w.heap.size) (hb : W.heap.size ≤ w.heap.size) (hy : wx.grownBy wy (some w.heap.size)) (y : Pv) :
    PvIn (setPv wy (w.heap.size + 1) y) (w.heap.size + 1) y ∧ Cod W (setPv wy (w.heap.size + 1) y) k ∧ w.grownBy (setPv wy (w.heap.size + 1) y) (some k) ∧ Kpt wx (setPv wy (w.heap.size + 1) y) (w.heap.size + 2) := by
  have hs := setPv_grown wy (w.heap.size + 1) y
  have hR : PvIn wy (w.heap.size + 1) zeroP := h.R.grown hy (by simp)
  refine ⟨setPv_in hR y, (h.cod.grown hy (by simp; omega) (by intro j hj; simp at hj; omega)).grown hs (by simp; omega) (by intro j hj; simp at hj; omega), ?_, (Kpt.low hy (by omega)).trans (Kpt.low hs (by omega))⟩
  exact grown_own (grown_own h.gr hy (by intro j hj; simp at hj; omega)) hs (by intro j hj; simp at hj; omega)
theorem next_pt (h : PyT W w wx k x) (hk : k < w.heap.size) (m : Int) (hm : 1 ≤ m ∧ m ≤ 9223372036854775807) :
    Calls Tryd.prog 25 #[.pointer (some ⟨k, 0, none⟩), .int .i64 m] wx fun e w' => ∃ r : Int, e = .returned (.int .i64 r) ∧ 0 ≤ r ∧ r < m ∧ PyT W w w' k x ∧ wx.grownBy w' (some k) :=
  (next_any W wx k h.cod m hm).mono fun e w' ⟨r, he, h0, h1, hc, hg⟩ => ⟨r, he, h0, h1, h.grown hk hc hg, hg⟩
theorem int_pt (h : PyT W w wx k x) (hk : k < w.heap.size) :
    Calls Tryd.prog 26 #[.pointer (some ⟨k, 0, none⟩)] wx fun e w' => ∃ r : Int, e = .returned (.int .i64 r) ∧ -9223372036854775808 ≤ r ∧ r ≤ 9223372036854775807 ∧ PyT W w w' k x ∧ wx.grownBy w' (some k) :=
  (int_any W wx k h.cod).mono fun e w' ⟨r, he, h0, h1, hc, hg⟩ => ⟨r, he, h0, h1, h.grown hk hc hg, hg⟩
theorem bytes_pt (h : PyT W w wx k x) (hk : k < w.heap.size) (n : Nat) (hn : n ≤ 100000) :
    Calls Tryd.prog 27 #[.pointer (some ⟨k, 0, none⟩), .int .i64 n] wx fun e w' => ∃ p c ys, e = .returned (.slice p n c) ∧ Bod w' (w.heap.size + 2) p n c ys ∧ PyT W w w' k x ∧ wx.grownBy w' (some k) :=
  (mbytes_any W wx k h.cod n hn).mono fun e w' ⟨p, c, ys, he, hb, hc, hg⟩ => ⟨p, c, ys, he, hb.mono h.ge, h.grown hk hc hg, hg⟩
end
/-- What spoil returns. -/
def MadeSpv (W w : World) (k B : Nat) (e : Ending) (w' : World) : Prop := ∃ (x : Pv) (C : Pc), e = .returned (.agg #[.int .i64 x.t, .slice x.pr.p x.pr.n x.pr.c, .int .i64 x.eg, .slice x.ed.p x.ed.n x.ed.c, .int .i64 x.ik, .slice x.id.p x.id.n x.id.c, .int .i64 x.am, .slice x.ad.p x.ad.n x.ad.c, .int .i64 x.np, .slice x.ns.p x.ns.n x.ns.c, .int .i64 x.nt, .slice x.nd.p x.nd.n x.nd.c, .int .i64 x.dp, .slice x.ds.p x.ds.n x.ds.c, .slice x.se.p x.se.n x.se.c, .slice x.da.p x.da.n x.da.c]) ∧ PvKp w' B x C ∧ Cod W w' k ∧ w.grownBy w' (some k)
theorem Bod.step {w w' : World} {base : Nat} {p : Option Addr} {n c : Nat} {xs : List Int} {k : Nat} (h : Bod w base p n c xs) (hg : w.grownBy w' (some k)) (hk : k < base) : Bod w' base p n c xs := h.grown hg (OffB.low hk)

theorem grown_none_some {w w' : World} {k : Nat} (h : w.grownBy w' none) : w.grownBy w' (some k) := ⟨h.os, h.tape, h.output, h.size, fun i hi _ => h.block i hi (by simp)⟩
theorem PyT.put {W w wx wy : World} {k : Nat} {x x' : Pv} (h : PyT W w wx k x) (hk : k < w.heap.size) (hb : W.heap.size ≤ w.heap.size) (hy : wx.grownBy wy (some w.heap.size)) (hS : PvIn wy w.heap.size x') : PyT W w wy k x' :=
  ⟨h.cod.grown hy (by simp; omega) (by intro j hj; simp at hj; omega), grown_own h.gr hy (by intro j hj; simp at hj; omega), h.R.grown hy (by simp), hS, by have := h.ge; have := hy.size; omega⟩
theorem PvIn.setDa {w : World} {g : Nat} {x : Pv} (h : PvIn w g x) (s : Sv) : PvIn (w.setCell ⟨g, 15, none⟩ (.slice s.p s.n s.c)) g { x with da := s } := by
  obtain ⟨c0, c1, c2, c3, c4, c5, c6, c7, c8, c9, c10, c11, c12, c13, c14, c15, fr⟩ := h
  exact ⟨by go_simp, by go_simp, by go_simp, by go_simp, by go_simp, by go_simp, by go_simp, by go_simp, by go_simp, by go_simp, by go_simp, by go_simp, by go_simp, by go_simp, by go_simp, by go_simp, fun j => by rw [World.frozen?_setCell]; exact fr j⟩
theorem two_heap (w : World) (o o' : Obj) : ((w.alloc o).alloc o').heap[w.heap.size]? = some o ∧ ((w.alloc o).alloc o').heap[w.heap.size + 1]? = some o' :=
  ⟨(((Below.refl (w.alloc o).heap.size (w.alloc o)).alloc (Nat.le_refl _) o').block w.heap.size (by simp)).trans (heap_alloc_new w o), by
    have h := heap_alloc_new (w.alloc o) o'
    rw [World.size_alloc] at h
    exact h⟩
theorem World.block_lt_of_some {w : World} {b : Nat} {o : Obj} (h : w.heap[b]? = some o) : b < w.heap.size := (Array.getElem?_eq_some_iff.1 h).1
theorem PvIn.setPr {w : World} {g : Nat} {x : Pv} (h : PvIn w g x) (s : Sv) : PvIn (w.setCell ⟨g, 1, none⟩ (.slice s.p s.n s.c)) g { x with pr := s } := by
  obtain ⟨c0, c1, c2, c3, c4, c5, c6, c7, c8, c9, c10, c11, c12, c13, c14, c15, fr⟩ := h
  exact ⟨by go_simp, by go_simp, by go_simp, by go_simp, by go_simp, by go_simp, by go_simp, by go_simp, by go_simp, by go_simp, by go_simp, by go_simp, by go_simp, by go_simp, by go_simp, by go_simp, fun j => by rw [World.frozen?_setCell]; exact fr j⟩
/-- How the cases end: the payload's own block, and what can be read of it from then on. -/
def Cut (W w wx : World) (k B : Nat) : Prop := ∃ (y : Pv) (D : Pc), PyT W w wx k y ∧ ∀ w', Kpt w w' B → Kpt wx w' (w.heap.size + 2) → PvRd w' y D

theorem PvIn.setDt {w : World} {g : Nat} {x : Pv} (h : PvIn w g x) (z : Int) (s : Sv) : PvIn ((w.setCell ⟨g, 12, none⟩ (.int .i64 z)).setCell ⟨g, 13, none⟩ (.slice s.p s.n s.c)) g { x with dp := z, ds := s } := h.setD z s
theorem three_sb (w w' : World) (k : Nat) (hk : k < w.heap.size) (p1 p2 : Option Addr) (n1 n2 c1 c2 : Nat) (y1 y2 : List Int) (hg : ((w.alloc (.cells #[.int .u8 0, .int .u8 7, .int .u8 14, .int .u8 21] 5)).alloc (.cells #[.slice p1 n1 c1, .slice p2 n2 c2, .slice (some ⟨w.heap.size, 0, none⟩) 4 4] 22)).grownBy w' (some k)) (base : Nat) (hb : base ≤ w.heap.size) (hkb : k < base) (b1 : Bod w base p1 n1 c1 y1) (b2 : Bod w base p2 n2 c2 y2) :
    ∀ w'', Kpt w' w'' base → RdG KSb DSb w'' (some ⟨w.heap.size + 1, 0, none⟩) 3 3 [⟨p1, n1, c1, y1⟩, ⟨p2, n2, c2, y2⟩, ⟨some ⟨w.heap.size, 0, none⟩, 4, 4, [0, 7, 14, 21]⟩] := by
  intro w'' hk2
  have hall : Kpt w w'' base := ((((Kpt.alloc w _ _).trans (Kpt.alloc _ _ _)).trans (Kpt.low hg hkb)).trans hk2)
  have key : ∀ b j v, w.heap.size ≤ b → ((w.alloc (.cells #[.int .u8 0, .int .u8 7, .int .u8 14, .int .u8 21] 5)).alloc (.cells #[.slice p1 n1 c1, .slice p2 n2 c2, .slice (some ⟨w.heap.size, 0, none⟩) 4 4] 22)).cell? ⟨b, j, none⟩ = some v → w''.cell? ⟨b, j, none⟩ = some v := fun b j v hbb h => hk2 _ _ (by show base ≤ b; omega) (hg.cell h (by simp; omega))
  have b3 : Byt w'' (some ⟨w.heap.size, 0, none⟩) 4 4 [0, 7, 14, 21] := byt_at w w'' [0, 7, 14, 21] _ (by decide) (by decide) (fun i hi => key _ _ _ (by omega) (by
    have : i = 0 ∨ i = 1 ∨ i = 2 ∨ i = 3 := by simp at hi; omega
    rcases this with rfl | rfl | rfl | rfl <;> go_simp))
  refine ⟨rfl, Nat.le_refl _, by unfold maxLen; omega, fun _ => ⟨_, rfl, fun j u hj => key _ _ _ (by omega) ?_⟩, fun x hx => ?_⟩
  · have hj' : ([.slice p1 n1 c1, .slice p2 n2 c2, .slice (some ⟨w.heap.size, 0, none⟩) 4 4] : List Value)[j]? = some u := hj
    have : j = 0 ∨ j = 1 ∨ j = 2 := by have := (List.getElem?_eq_some_iff.1 hj').1; simp at this; omega
    rcases this with rfl | rfl | rfl
    all_goals
      simp at hj'
      subst hj'
      go_simp
  · simp at hx
    rcases hx with rfl | rfl | rfl
    · exact b1.kp hall
    · exact b2.kp hall
    · exact b3
/-- The other world has the cells of the blocks from base on, but for those of one type. -/
def Kpx (w w' : World) (base : Nat) (T : TypeId) : Prop := ∀ (a : Addr) (v : Value), base ≤ a.block → (∀ cur fz, w.heap[a.block]? ≠ some (.cells cur T fz)) → w.cell? a = some v → w'.cell? a = some v
theorem Bod.kpx {w w' : World} {base : Nat} {T : TypeId} {p : Option Addr} {n c : Nat} {xs : List Int} (h : Bod w base p n c xs) (hk : Kpx w w' base T) (hT : T ≠ 5) : Byt w' p n c xs :=
  ⟨h.byt.len, h.byt.cap, h.byt.big, h.byt.rng, fun hn => by
    obtain ⟨b, o, e, hc⟩ := h.byt.mem hn
    obtain ⟨b', o', cur, fz, e', hb, hh⟩ := h.own (by have := h.byt.len; omega)
    rw [e] at e'
    injection e' with e'
    injection e' with e1 e2
    subst e1
    exact ⟨b, o, e, fun i hi => hk _ _ hb (fun cur' fz' h' => by rw [hh] at h'; simp at h'; exact hT h'.2.1.symm) (hc i hi)⟩⟩
theorem RowG.kpx {α : Type} {K : KindR α} {N : NestR α} {D : ReadN α} {w w' : World} {base : Nat} {T : TypeId} {p : Option Addr} {n c : Nat} {l : List α} (h : RowG K N w base (.slice p n c) l) (hl : l.length = n) (hk : Kpx w w' base T) (hT : T ≠ K.e) (hd : ∀ x, N.ok w base x → D.ok w' x) : RdG K D w' p n c l := by
  have hok : ∀ x ∈ l, D.ok w' x := fun x hx => hd x (h.ok x hx)
  rcases h.own.2 with ⟨e, h0⟩ | ⟨g, cap, cur, e, hg, hh, hnc, hm, hs, ht⟩
  · simp at e
    obtain ⟨rfl, rfl, rfl⟩ := e
    exact ⟨hl, by omega, by unfold maxLen; omega, fun h => by omega, hok⟩
  · simp at e
    obtain ⟨rfl, rfl, rfl⟩ := e
    refine ⟨hl, hnc, hm, fun h0 => ⟨g, rfl, fun j u hj => ?_⟩, hok⟩
    have := World.ownsRow.cells h.own (g := g) rfl j u hj
    rw [WideShapes.add_plain, Nat.zero_add] at this
    exact hk _ _ hg (fun cur' fz' h' => by rw [hh] at h'; simp at h'; exact hT h'.2.1.symm) this
theorem OkN.kpx {w w' : World} {base : Nat} {T : TypeId} {x : PrP} (h : OkN w base x) (hk : Kpx w w' base T) (h1 : T ≠ 5) (h2 : T ≠ 100) : OkD w' x := by
  have hl : x.ts.length = x.tn := by
    rcases h.ts.form rfl with ⟨p, c, e⟩
    simp at e
    exact e.2.1.symm
  exact ⟨h.int, h.s.kpx hk h1, RowG.kpx (D := DTr) h.ts hl hk h2 (fun _ h => h)⟩
theorem row_lit (w : World) (s : Sl) (hs : FitS s) (base : Nat) (hb : base ≤ w.heap.size) : RowG KSl NSl (w.alloc (.cells #[.int .i64 s.p, .int .i64 s.a, .int .i64 s.b, .int .i64 s.lo.f, .int .u64 s.lo.h, .int .u64 s.lo.l, .int .i64 s.hi.f, .int .u64 s.hi.h, .int .u64 s.hi.l] 74)) base (.slice (some ⟨w.heap.size, 0, none⟩) 1 1) [s] :=
  ⟨⟨rfl, Or.inr ⟨w.heap.size, 1, #[.int .i64 s.p, .int .i64 s.a, .int .i64 s.b, .int .i64 s.lo.f, .int .u64 s.lo.h, .int .u64 s.lo.l, .int .i64 s.hi.f, .int .u64 s.hi.h, .int .u64 s.hi.l], rfl, hb, heap_alloc_new w _, Nat.le_refl _, by unfold maxLen; omega, rfl, rfl⟩⟩, fun x hx => by rw [List.mem_singleton.1 hx]; exact hs⟩
theorem PvIn.setSe {w : World} {g : Nat} {x : Pv} (h : PvIn w g x) (s : Sv) : PvIn (w.setCell ⟨g, 14, none⟩ (.slice s.p s.n s.c)) g { x with se := s } := by
  obtain ⟨c0, c1, c2, c3, c4, c5, c6, c7, c8, c9, c10, c11, c12, c13, c14, c15, fr⟩ := h
  exact ⟨by go_simp, by go_simp, by go_simp, by go_simp, by go_simp, by go_simp, by go_simp, by go_simp, by go_simp, by go_simp, by go_simp, by go_simp, by go_simp, by go_simp, by go_simp, by go_simp, fun j => by rw [World.frozen?_setCell]; exact fr j⟩
theorem PyT.row {W w wx wy : World} {k r : Nat} {x : Pv} (h : PyT W w wx k x) (hk : k < w.heap.size) (hb : W.heap.size ≤ w.heap.size) (hg : wx.grownBy wy (some r)) (hr : w.heap.size + 2 ≤ r) : PyT W w wy k x :=
  ⟨h.cod.grown hg (by simp; omega) (by intro j hj; simp at hj; omega), grown_own h.gr hg (by intro j hj; simp at hj; omega), h.R.grown hg (by simp; omega), h.S.grown hg (by simp; omega), by have := h.ge; have := hg.size; omega⟩
set_option maxHeartbeats 3200000 in
set_option maxRecDepth 100000 in
theorem spoil_cut (W w : World) (k : Nat) (h : Cod W w k) (B : Nat) (hkB : k < B) (hB : B ≤ w.heap.size) (x : Pv) (C : Pc) (hp : PvKp w B x C) (hrow : RowG KPr NPr w B (.slice x.pr.p x.pr.n x.pr.c) C.pr) (hl : C.pr.length = x.pr.n) (h2 : x.pr.n ≤ 2) (hse : x.se.n ≤ 2) (hts : ∀ z ∈ C.pr, z.ts.length ≤ 6) :
    Calls Tryd.prog 10 #[.pointer (some ⟨k, 0, none⟩), (.agg #[.int .i64 x.t, .slice x.pr.p x.pr.n x.pr.c, .int .i64 x.eg, .slice x.ed.p x.ed.n x.ed.c, .int .i64 x.ik, .slice x.id.p x.id.n x.id.c, .int .i64 x.am, .slice x.ad.p x.ad.n x.ad.c, .int .i64 x.np, .slice x.ns.p x.ns.n x.ns.c, .int .i64 x.nt, .slice x.nd.p x.nd.n x.nd.c, .int .i64 x.dp, .slice x.ds.p x.ds.n x.ds.c, .slice x.se.p x.se.n x.se.c, .slice x.da.p x.da.n x.da.c])] w (MadeSpv W w k B) := by
  obtain ⟨i0, hi0, hz0, hz1, hz2⟩ := info_parts Tryd.infoByte
  have hk := h.lt
  have hbase := h.bel.size
  have HP := hidden hp
  have HRW := hidden hrow
  have HL := hidden hl
  have HTS := hidden hts
  have H0 := hidden (PyT.new h x)
  clear h hp hrow hl hts
  go_enter Tryd.func10, Tryd.ntmps10
  go_upto_block 0 with (first
    | (go_at_call 25; (with_reducible refine (next_pt H0.out hk _ ?_).mono ?_); omega; rintro e w1 ⟨r, rfl, r0, r1, hd, hg⟩; have H1 := hidden hd; have HG1 := hidden hg; clear hd hg H0)
    | fail)
  go_cut [] from 7 to 111 (fun wx => Cut W w wx k B)
  case rest =>
    obtain ⟨y, D, hd, hy⟩ := hcut
    have H2 := hidden hd
    have HY := hidden hy
    rename World => w2
    clear hd hy
    obtain ⟨y0, y1, y2, y3, y4, y5, y6, y7, y8, y9, y10, y11, y12, y13, y14, y15, z0_, z1_, z2_, z3_, z4_, z5_, z6_, z7_, z8_, z9_, z10_, z11_, z12_, z13_, z14_, z15_, zf⟩ := H2.out.R.any
    obtain ⟨s0, s1, s2, s3, s4, s5, s6, s7, s8, s9, s10, s11, s12, s13, s14, s15, sf⟩ := H2.out.S
    go_wp2
    have hz := H2.out.ret hk hbase (wy := w2) (grown_refl _ _) y
    simp only [setPv] at hz
    exact ret_pv1 (g := w.heap.size + 1) rfl rfl rfl hz.1 ⟨y, D, rfl, fun w' hk' => HY.out w' ((Kpt.low hz.2.2.1 hkB).trans hk') (hz.2.2.2.trans (hk'.mono (by omega))), hz.2.1, hz.2.2.1⟩
  case first =>
    have hr : r = 0 ∨ r = 1 ∨ r = 2 ∨ r = 3 ∨ r = 4 ∨ r = 5 ∨ r = 6 ∨ r = 7 ∨ r = 8 ∨ r = 9 := by omega
    rcases hr with rfl | rfl | rfl | rfl | rfl | rfl | rfl | rfl | rfl | rfl
    · go_wp2_with (first
        | (go_at_call 26; (with_reducible refine (int_pt H1.out hk).mono ?_); rintro e w2 ⟨v, rfl, v0, v1, hd, hg⟩; have H2 := hidden hd; clear hd hg H1; have s0 := H2.out.S.c0; have sf := H2.out.S.fr)
        | fail)
      clear sf s0
      go_meet
      case rel => exact ⟨⟨v, x.pr, x.eg, x.ed, x.ik, x.id, x.am, x.ad, x.np, x.ns, x.nt, x.nd, x.dp, x.ds, x.se, x.da⟩, ⟨C.pr, C.ed, C.id, C.ad, C.ns, C.nd, C.ds, C.se, C.da⟩, H2.out.put hk hbase (wy := (w2.setCell ⟨w.heap.size, 0, none⟩ (.int .i64 v))) (grown_set _ _ _ _) (x' := ⟨v, x.pr, x.eg, x.ed, x.ik, x.id, x.am, x.ad, x.np, x.ns, x.nt, x.nd, x.dp, x.ds, x.se, x.da⟩) (H2.out.S.setT v), fun w' hk1 hk2 => (have hh := HP.out w' hk1; ⟨hh.pr, hh.ed, hh.id, hh.ad, hh.ns, hh.nd, hh.ds, hh.se, hh.da⟩)⟩
    · go_wp2_with (first
        | (go_at_call 26; (with_reducible refine (int_pt H1.out hk).mono ?_); rintro e w2 ⟨v, rfl, v0, v1, hd, hg⟩; have H2 := hidden hd; clear hd hg H1)
        | (go_at_call 25; (with_reducible refine (next_pt H2.out hk 3 ?_).mono ?_); omega; rintro e w3 ⟨n, rfl, n0, n1, hd, hg⟩; obtain ⟨n, rfl⟩ := Int.eq_ofNat_of_zero_le n0; have H3 := hidden hd; clear hd hg H2)
        | (go_at_call 27; (refine (bytes_pt H3.out hk n ?_).mono ?_); omega; rintro e w4 ⟨pq, cq, yq, rfl, hb, hd, hg⟩; have H4 := hidden hd; have Bq := hidden hb; clear hb hd hg H3; have s2 := H4.out.S.c2; have s3 := H4.out.S.c3; have sf := H4.out.S.fr)
        | fail)
      clear sf s2 s3
      go_meet
      case rel => exact ⟨⟨x.t, x.pr, v, ⟨pq, n, cq⟩, x.ik, x.id, x.am, x.ad, x.np, x.ns, x.nt, x.nd, x.dp, x.ds, x.se, x.da⟩, ⟨C.pr, yq, C.id, C.ad, C.ns, C.nd, C.ds, C.se, C.da⟩, H4.out.put hk hbase (wy := ((w4.setCell ⟨w.heap.size, 2, none⟩ (.int .i64 v)).setCell ⟨w.heap.size, 3, none⟩ (.slice pq n cq))) (grown_trans (grown_set _ _ _ _) (grown_set _ _ _ _)) (x' := ⟨x.t, x.pr, v, ⟨pq, n, cq⟩, x.ik, x.id, x.am, x.ad, x.np, x.ns, x.nt, x.nd, x.dp, x.ds, x.se, x.da⟩) (H4.out.S.setE v ⟨pq, n, cq⟩), fun w' hk1 hk2 => (have hh := HP.out w' hk1; ⟨hh.pr, Bq.out.kp ((Kpt.low (grown_trans (grown_set _ _ _ _) (grown_set _ _ _ _)) (by omega)).trans hk2), hh.id, hh.ad, hh.ns, hh.nd, hh.ds, hh.se, hh.da⟩)⟩
    · go_wp2_with (first
        | (go_at_call 25; (with_reducible refine (next_pt H1.out hk 13 ?_).mono ?_); omega; rintro e w2 ⟨v, rfl, v0, v1, hd, hg⟩; have H2 := hidden hd; clear hd hg H1)
        | (go_at_call 25; (with_reducible refine (next_pt H2.out hk 3 ?_).mono ?_); omega; rintro e w3 ⟨n, rfl, n0, n1, hd, hg⟩; obtain ⟨n, rfl⟩ := Int.eq_ofNat_of_zero_le n0; have hw8 : IntKind.i64.wrap ((n : Int) * 8) = ((n * 8 : Nat) : Int) := (by rw [IntKind.wrap_i64]; omega); have H3 := hidden hd; clear hd hg H2)
        | (go_at_call 27; (refine (bytes_pt H3.out hk (n * 8) ?_).mono ?_); omega; rintro e w4 ⟨pq, cq, yq, rfl, hb, hd, hg⟩; have H4 := hidden hd; have Bq := hidden hb; clear hb hd hg H3; have s4 := H4.out.S.c4; have s5 := H4.out.S.c5; have sf := H4.out.S.fr)
        | fail)
      clear sf s4 s5
      go_meet
      case rel => exact ⟨⟨x.t, x.pr, x.eg, x.ed, v, ⟨pq, n * 8, cq⟩, x.am, x.ad, x.np, x.ns, x.nt, x.nd, x.dp, x.ds, x.se, x.da⟩, ⟨C.pr, C.ed, yq, C.ad, C.ns, C.nd, C.ds, C.se, C.da⟩, H4.out.put hk hbase (wy := ((w4.setCell ⟨w.heap.size, 4, none⟩ (.int .i64 v)).setCell ⟨w.heap.size, 5, none⟩ (.slice pq (n * 8) cq))) (grown_trans (grown_set _ _ _ _) (grown_set _ _ _ _)) (x' := ⟨x.t, x.pr, x.eg, x.ed, v, ⟨pq, n * 8, cq⟩, x.am, x.ad, x.np, x.ns, x.nt, x.nd, x.dp, x.ds, x.se, x.da⟩) (H4.out.S.setI v ⟨pq, n * 8, cq⟩), fun w' hk1 hk2 => (have hh := HP.out w' hk1; ⟨hh.pr, hh.ed, Bq.out.kp ((Kpt.low (grown_trans (grown_set _ _ _ _) (grown_set _ _ _ _)) (by omega)).trans hk2), hh.ad, hh.ns, hh.nd, hh.ds, hh.se, hh.da⟩)⟩
    · go_wp2_with (first
        | (go_at_call 26; (with_reducible refine (int_pt H1.out hk).mono ?_); rintro e w2 ⟨v, rfl, v0, v1, hd, hg⟩; have H2 := hidden hd; clear hd hg H1)
        | (go_at_call 25; (with_reducible refine (next_pt H2.out hk 2 ?_).mono ?_); omega; rintro e w3 ⟨n, rfl, n0, n1, hd, hg⟩; obtain ⟨n, rfl⟩ := Int.eq_ofNat_of_zero_le n0; have H3 := hidden hd; clear hd hg H2)
        | (go_at_call 27; (refine (bytes_pt H3.out hk n ?_).mono ?_); omega; rintro e w4 ⟨pq, cq, yq, rfl, hb, hd, hg⟩; have H4 := hidden hd; have Bq := hidden hb; clear hb hd hg H3; have s6 := H4.out.S.c6; have s7 := H4.out.S.c7; have sf := H4.out.S.fr)
        | fail)
      clear sf s6 s7
      go_meet
      case rel => exact ⟨⟨x.t, x.pr, x.eg, x.ed, x.ik, x.id, v, ⟨pq, n, cq⟩, x.np, x.ns, x.nt, x.nd, x.dp, x.ds, x.se, x.da⟩, ⟨C.pr, C.ed, C.id, yq, C.ns, C.nd, C.ds, C.se, C.da⟩, H4.out.put hk hbase (wy := ((w4.setCell ⟨w.heap.size, 6, none⟩ (.int .i64 v)).setCell ⟨w.heap.size, 7, none⟩ (.slice pq n cq))) (grown_trans (grown_set _ _ _ _) (grown_set _ _ _ _)) (x' := ⟨x.t, x.pr, x.eg, x.ed, x.ik, x.id, v, ⟨pq, n, cq⟩, x.np, x.ns, x.nt, x.nd, x.dp, x.ds, x.se, x.da⟩) (H4.out.S.setA v ⟨pq, n, cq⟩), fun w' hk1 hk2 => (have hh := HP.out w' hk1; ⟨hh.pr, hh.ed, hh.id, Bq.out.kp ((Kpt.low (grown_trans (grown_set _ _ _ _) (grown_set _ _ _ _)) (by omega)).trans hk2), hh.ns, hh.nd, hh.ds, hh.se, hh.da⟩)⟩
    · go_wp2_with (first
        | (go_at_call 25; (with_reducible refine (next_pt H1.out hk 6 ?_).mono ?_); omega; rintro e w2 ⟨v, rfl, v0, v1, hd, hg⟩; have H2 := hidden hd; clear hd hg H1)
        | (go_at_call 25; (with_reducible refine (next_pt H2.out hk 6 ?_).mono ?_); omega; rintro e w3 ⟨m, rfl, m0, m1, hd, hg⟩; obtain ⟨m, rfl⟩ := Int.eq_ofNat_of_zero_le m0; have H3 := hidden hd; clear hd hg H2)
        | (go_at_call 27; (refine (bytes_pt H3.out hk m ?_).mono ?_); omega; rintro e w4 ⟨pr, cr, yr, rfl, hb, hd, hg⟩; have H4 := hidden hd; have Br := hidden hb; clear hb hd hg H3)
        | (go_at_call 26; (with_reducible refine (int_pt H4.out hk).mono ?_); rintro e w5 ⟨u, rfl, u0, u1, hd, hg⟩; have H5 := hidden hd; have Br := hidden (Br.out.step hg (Nat.lt_of_lt_of_le hk (Nat.le_add_right _ 2))); clear hd hg H4)
        | (go_at_call 25; (with_reducible refine (next_pt H5.out hk 3 ?_).mono ?_); omega; rintro e w6 ⟨n, rfl, n0, n1, hd, hg⟩; obtain ⟨n, rfl⟩ := Int.eq_ofNat_of_zero_le n0; have H6 := hidden hd; have Br := hidden (Br.out.step hg (Nat.lt_of_lt_of_le hk (Nat.le_add_right _ 2))); clear hd hg H5)
        | (go_at_call 27; (refine (bytes_pt H6.out hk n ?_).mono ?_); omega; rintro e w7 ⟨pq, cq, yq, rfl, hb, hd, hg⟩; have H7 := hidden hd; have Br := hidden (Br.out.step hg (Nat.lt_of_lt_of_le hk (Nat.le_add_right _ 2))); have Bq := hidden hb; clear hb hd hg H6; have s8 := H7.out.S.c8; have s9 := H7.out.S.c9; have s10 := H7.out.S.c10; have s11 := H7.out.S.c11; have sf := H7.out.S.fr)
        | fail)
      clear sf s8 s9 s10 s11
      go_meet
      case rel => exact ⟨⟨x.t, x.pr, x.eg, x.ed, x.ik, x.id, x.am, x.ad, v, ⟨pr, m, cr⟩, u, ⟨pq, n, cq⟩, x.dp, x.ds, x.se, x.da⟩, ⟨C.pr, C.ed, C.id, C.ad, yr, yq, C.ds, C.se, C.da⟩, H7.out.put hk hbase (wy := ((((w7.setCell ⟨w.heap.size, 8, none⟩ (.int .i64 v)).setCell ⟨w.heap.size, 9, none⟩ (.slice pr m cr)).setCell ⟨w.heap.size, 10, none⟩ (.int .i64 u)).setCell ⟨w.heap.size, 11, none⟩ (.slice pq n cq))) (grown_trans (grown_trans (grown_trans (grown_set _ _ _ _) (grown_set _ _ _ _)) (grown_set _ _ _ _)) (grown_set _ _ _ _)) (x' := ⟨x.t, x.pr, x.eg, x.ed, x.ik, x.id, x.am, x.ad, v, ⟨pr, m, cr⟩, u, ⟨pq, n, cq⟩, x.dp, x.ds, x.se, x.da⟩) (H7.out.S.setN v u ⟨pr, m, cr⟩ ⟨pq, n, cq⟩), fun w' hk1 hk2 => (have hh := HP.out w' hk1; ⟨hh.pr, hh.ed, hh.id, hh.ad, Br.out.kp ((Kpt.low (grown_trans (grown_trans (grown_trans (grown_set _ _ _ _) (grown_set _ _ _ _)) (grown_set _ _ _ _)) (grown_set _ _ _ _)) (by omega)).trans hk2), Bq.out.kp ((Kpt.low (grown_trans (grown_trans (grown_trans (grown_set _ _ _ _) (grown_set _ _ _ _)) (grown_set _ _ _ _)) (grown_set _ _ _ _)) (by omega)).trans hk2), hh.ds, hh.se, hh.da⟩)⟩
    · go_wp2_with (first
        | (go_at_call 25; (with_reducible refine (next_pt H1.out hk 5 ?_).mono ?_); omega; rintro e w2 ⟨v, rfl, v0, v1, hd, hg⟩; have H2 := hidden hd; clear hd hg H1)
        | (go_at_call 27; (refine (bytes_pt H2.out hk 4 ?_).mono ?_); omega; rintro e w3 ⟨pr, cr, yr, rfl, hb, hd, hg⟩; have H3 := hidden hd; have Br := hidden hb; clear hb hd hg H2)
        | (go_at_call 25; (with_reducible refine (next_pt H3.out hk 6 ?_).mono ?_); omega; rintro e w4 ⟨n, rfl, n0, n1, hd, hg⟩; obtain ⟨n, rfl⟩ := Int.eq_ofNat_of_zero_le n0; have H4 := hidden hd; have Br := hidden (Br.out.step hg (Nat.lt_of_lt_of_le hk (Nat.le_add_right _ 2))); clear hd hg H3)
        | (go_at_call 27; (refine (bytes_pt H4.out hk n ?_).mono ?_); omega; rintro e w5 ⟨pq, cq, yq, rfl, hb, hd, hg⟩; have H5 := hidden hd; have Br := hidden (Br.out.step hg (Nat.lt_of_lt_of_le hk (Nat.le_add_right _ 2))); have Bq := hidden hb; clear hb hd hg H4)
        | (go_at_call 25; (with_reducible refine (next_pt ((H5.out.alloc _).alloc _) hk 4 ?_).mono ?_); omega; rintro e w6 ⟨j, rfl, j0, j1, hd, hg⟩; obtain ⟨j, rfl⟩ := Int.eq_ofNat_of_zero_le j0; have HSB := hidden (three_sb w5 w6 k (by have := H5.out.ge; omega) pr pq 4 n cr cq yr yq hg (w.heap.size + 2) H5.out.ge (by omega) Br.out Bq.out); have H6 := hidden hd; have hq2 : (j : Int) ≤ 3 := (by omega); have hq3 : j ≤ 3 := (by omega); have s12 := hd.S.c12; have s13 := hd.S.c13; have sf := hd.S.fr; clear hd hg H5)
        | fail)
      clear sf s12 s13
      go_meet
      case rel => exact ⟨⟨x.t, x.pr, x.eg, x.ed, x.ik, x.id, x.am, x.ad, x.np, x.ns, x.nt, x.nd, v, ⟨some ⟨w5.heap.size + 1, 0, none⟩, j, 3⟩, x.se, x.da⟩, ⟨C.pr, C.ed, C.id, C.ad, C.ns, C.nd, ([⟨pr, 4, cr, yr⟩, ⟨pq, n, cq, yq⟩, ⟨some ⟨w5.heap.size, 0, none⟩, 4, 4, [0, 7, 14, 21]⟩] : List Sb).take j, C.se, C.da⟩, H6.out.put hk hbase (wy := ((w6.setCell ⟨w.heap.size, 12, none⟩ (.int .i64 v)).setCell ⟨w.heap.size, 13, none⟩ (.slice (some ⟨w5.heap.size + 1, 0, none⟩) j 3))) (grown_trans (grown_set _ _ _ _) (grown_set _ _ _ _)) (x' := ⟨x.t, x.pr, x.eg, x.ed, x.ik, x.id, x.am, x.ad, x.np, x.ns, x.nt, x.nd, v, ⟨some ⟨w5.heap.size + 1, 0, none⟩, j, 3⟩, x.se, x.da⟩) (H6.out.S.setD v ⟨some ⟨w5.heap.size + 1, 0, none⟩, j, 3⟩), fun w' hk1 hk2 => (have hh := HP.out w' hk1; ⟨hh.pr, hh.ed, hh.id, hh.ad, hh.ns, hh.nd, (HSB.out w' ((Kpt.low (grown_trans (grown_set _ _ _ _) (grown_set _ _ _ _)) (by omega)).trans hk2)).front j (by omega), hh.se, hh.da⟩)⟩
    · go_wp2_with (first
        | (go_at_call 25; (with_reducible refine (next_pt H1.out hk 20 ?_).mono ?_); omega; rintro e w2 ⟨n, rfl, n0, n1, hd, hg⟩; obtain ⟨n, rfl⟩ := Int.eq_ofNat_of_zero_le n0; have H2 := hidden hd; clear hd hg H1)
        | (go_at_call 27; (refine (bytes_pt H2.out hk n ?_).mono ?_); omega; rintro e w3 ⟨pq, cq, yq, rfl, hb, hd, hg⟩; have H3 := hidden hd; have Bq := hidden hb; clear hb hd hg H2; have s15 := H3.out.S.c15; have sf := H3.out.S.fr)
        | fail)
      clear sf s15
      go_meet
      case rel => exact ⟨⟨x.t, x.pr, x.eg, x.ed, x.ik, x.id, x.am, x.ad, x.np, x.ns, x.nt, x.nd, x.dp, x.ds, x.se, ⟨pq, n, cq⟩⟩, ⟨C.pr, C.ed, C.id, C.ad, C.ns, C.nd, C.ds, C.se, yq⟩, H3.out.put hk hbase (wy := (w3.setCell ⟨w.heap.size, 15, none⟩ (.slice pq n cq))) (grown_set _ _ _ _) (x' := ⟨x.t, x.pr, x.eg, x.ed, x.ik, x.id, x.am, x.ad, x.np, x.ns, x.nt, x.nd, x.dp, x.ds, x.se, ⟨pq, n, cq⟩⟩) (H3.out.S.setDa ⟨pq, n, cq⟩), fun w' hk1 hk2 => (have hh := HP.out w' hk1; ⟨hh.pr, hh.ed, hh.id, hh.ad, hh.ns, hh.nd, hh.ds, hh.se, Bq.out.kp ((Kpt.low (grown_set _ _ _ _) (by omega)).trans hk2)⟩)⟩
    · go_wp2_with (first
        | (go_at_call 25; (with_reducible refine (next_pt H1.out hk 10 ?_).mono ?_); omega; rintro e w2 ⟨n, rfl, n0, n1, hd, hg⟩; obtain ⟨n, rfl⟩ := Int.eq_ofNat_of_zero_le n0; have hwn : IntKind.i64.wrap (250 + (n : Int)) = ((250 + n : Nat) : Int) := (by rw [IntKind.wrap_i64]; omega); have H2 := hidden hd; clear hd hg H1)
        | (at_make; go_loud (refine wpList_make_byt _ rfl _ _ 22 rfl (w.heap.size + 2) 5 i0 Tryd.underlying22 hi0 hz0 hz1 hz2 .i64 .i64 _ _ (250 + n) (250 + n) rfl rfl rfl rfl (Nat.le_refl _) (by omega) H2.out.ge ?_))
        | fail)
      intro w3 ho hg
      obtain ⟨pq, cq, he, hbod⟩ := ho.bod (n := 250 + n) List.length_replicate (fun z hz => by rw [List.eq_of_mem_replicate hz]; omega)
      simp at he
      obtain ⟨rfl, rfl⟩ := he
      have H3 := hidden (H2.out.grown hk (H2.out.cod.grown hg (by simp) (by simp)) (grown_none_some hg))
      have Bq := hidden hbod
      clear ho hg hbod H2
      have s15 := H3.out.S.c15
      have sf := H3.out.S.fr
      go_wp2
      clear sf s15
      go_meet
      case rel => exact ⟨⟨x.t, x.pr, x.eg, x.ed, x.ik, x.id, x.am, x.ad, x.np, x.ns, x.nt, x.nd, x.dp, x.ds, x.se, ⟨some ⟨w2.heap.size, 0, none⟩, 250 + n, 250 + n⟩⟩, ⟨C.pr, C.ed, C.id, C.ad, C.ns, C.nd, C.ds, C.se, List.replicate (250 + n) 0⟩, H3.out.put hk hbase (wy := (w3.setCell ⟨w.heap.size, 15, none⟩ (.slice (some ⟨w2.heap.size, 0, none⟩) (250 + n) (250 + n)))) (grown_set _ _ _ _) (x' := ⟨x.t, x.pr, x.eg, x.ed, x.ik, x.id, x.am, x.ad, x.np, x.ns, x.nt, x.nd, x.dp, x.ds, x.se, ⟨some ⟨w2.heap.size, 0, none⟩, 250 + n, 250 + n⟩⟩) (H3.out.S.setDa ⟨some ⟨w2.heap.size, 0, none⟩, 250 + n, 250 + n⟩), fun w' hk1 hk2 => (have hh := HP.out w' hk1; ⟨hh.pr, hh.ed, hh.id, hh.ad, hh.ns, hh.nd, hh.ds, hh.se, Bq.out.kp ((Kpt.low (grown_set _ _ _ _) (by omega)).trans hk2)⟩)⟩
    · have t1 : w1.heap[w.heap.size]? = some (.cells #[.int .i64 x.t, .slice x.pr.p x.pr.n x.pr.c, .int .i64 x.eg, .slice x.ed.p x.ed.n x.ed.c, .int .i64 x.ik, .slice x.id.p x.id.n x.id.c, .int .i64 x.am, .slice x.ad.p x.ad.n x.ad.c, .int .i64 x.np, .slice x.ns.p x.ns.n x.ns.c, .int .i64 x.nt, .slice x.nd.p x.nd.n x.nd.c, .int .i64 x.dp, .slice x.ds.p x.ds.n x.ds.c, .slice x.se.p x.se.n x.se.c, .slice x.da.p x.da.n x.da.c] 40 (0, 0)) := by
        rw [HG1.out.block w.heap.size (by simp; omega) (by simp; omega)]
        exact (two_heap w _ _).1
      have t2 : w1.heap[w.heap.size + 1]? = some (.cells #[.int .i64 0, .slice none 0 0, .int .i64 0, .slice none 0 0, .int .i64 0, .slice none 0 0, .int .i64 0, .slice none 0 0, .int .i64 0, .slice none 0 0, .int .i64 0, .slice none 0 0, .int .i64 0, .slice none 0 0, .slice none 0 0, .slice none 0 0] 40 (0, 0)) := by
        rw [HG1.out.block (w.heap.size + 1) (by simp) (by simp; omega)]
        exact (two_heap w _ _).2
      have T1 := hidden t1
      have T2 := hidden t2
      have s1 := H1.out.S.c1
      have hrw := HRW.out.low H1.out.gr hkB
      have HSP := hidden (spoil_any W w1 k H1.out.cod B (by have := H1.out.ge; omega) hkB _ _ _ C.pr hrw HL.out (by omega) 6 (by omega) HTS.out)
      clear t1 t2 hrw
      go_wp2_with (first
        | (go_at_call 28; (with_reducible refine (HSP.out).mono ?_); rintro e w2 ⟨vq, ls, rfl, hn1, -, hrow, hc, hg⟩; obtain ⟨pq, cq, rfl⟩ := hrow.form rfl; have H2 := hidden (H1.out.grown hk hc hg); have HR2 := hidden hrow; have HG2 := hidden hg; clear hn1 hrow hc hg H1 s1; have s1 := H2.out.S.c1; have sf := H2.out.S.fr)
        | fail)
      clear sf s1
      go_meet
      case rel =>
        refine ⟨⟨x.t, ⟨pq, ls.length, cq⟩, x.eg, x.ed, x.ik, x.id, x.am, x.ad, x.np, x.ns, x.nt, x.nd, x.dp, x.ds, x.se, x.da⟩, ⟨ls, C.ed, C.id, C.ad, C.ns, C.nd, C.ds, C.se, C.da⟩, H2.out.put hk hbase (wy := (w2.setCell ⟨w.heap.size, 1, none⟩ (.slice pq ls.length cq))) (grown_set _ _ _ _) (x' := ⟨x.t, ⟨pq, ls.length, cq⟩, x.eg, x.ed, x.ik, x.id, x.am, x.ad, x.np, x.ns, x.nt, x.nd, x.dp, x.ds, x.se, x.da⟩) (H2.out.S.setPr ⟨pq, ls.length, cq⟩), fun w' hk1 hk2 => ?_⟩
        have hh := HP.out w' hk1
        have hkx : Kpx w2 w' B 40 := fun a u hb hne hc => by
          by_cases hlt : a.block < w.heap.size
          · refine hk1 a u hb ?_
            rw [← World.cell?_of_block (H2.out.gr.block a.block hlt (by simp; omega))]
            exact hc
          · by_cases ha : a.block = w.heap.size
            · exact absurd ((HG2.out.block w.heap.size (World.block_lt_of_some T1.out) (by simp; omega)).trans T1.out) (by rw [← ha]; exact hne _ _)
            · by_cases hb' : a.block = w.heap.size + 1
              · exact absurd ((HG2.out.block (w.heap.size + 1) (World.block_lt_of_some T2.out) (by simp; omega)).trans T2.out) (by rw [← hb']; exact hne _ _)
              · exact (Kpt.low (grown_set _ _ _ _) (by omega)).trans hk2 a u (by omega) hc
        exact ⟨RowG.kpx HR2.out rfl hkx (by decide) (fun z hz => OkN.kpx hz hkx (by decide) (by decide)), hh.ed, hh.id, hh.ad, hh.ns, hh.nd, hh.ds, hh.se, hh.da⟩
    · have s14 := H1.out.S.c14
      have hrd1 := (HP.out w1 (Kpt.low H1.out.gr hkB)).se
      by_cases hz : x.se.n = 0
      · have hzf : ((x.se.n : Int) > 0) = False := by simp; omega
        have hzg : ¬ (0 : Int) < x.se.n := by omega
        clear hz hrd1
        go_wp2_with fail
        clear s14
        go_meet
        case rel => exact ⟨x, C, H1.out, fun w' hk1 hk2 => HP.out w' hk1⟩
      have hzg : (0 : Int) < x.se.n := by omega
      have hlen := hrd1.len
      obtain ⟨g, hpe, a0, a1, a2, a3, a4, a5, a6, a7, a8, hfit⟩ := rd_sl hrd1 0 (by omega)
      simp only [Nat.zero_mul, Nat.zero_add] at a0 a1 a2 a3 a4 a5 a6 a7 a8
      obtain ⟨s0, hs0⟩ : ∃ s0, C.se[0]'(by omega) = s0 := ⟨_, rfl⟩
      rw [hs0] at a0 a1 a2 a3 a4 a5 a6 a7 a8 hfit
      rw [hpe] at s14
      have HF := hidden hfit
      have HPE := hidden hpe
      have HLEN := hidden hlen
      clear hz hrd1 hpe hs0 hfit hlen
      go_wp2_with fail
      go_region_law (first
        | (go_simp; go_at_call 29; (with_reducible refine (spoilSel_any W _ k ?_ s0 HF.out).mono ?_); (first | exact H1.out.drew.cod | exact H1.out.cod); rintro e w2 ⟨s', rfl, hfs, hc, hg⟩; have H2 := hidden (H1.out.drew.grown hk hc hg); have q14 := H2.out.S.c14; rw [HPE.out] at q14; have hq1 : w.heap.size < w2.heap.size := (by have := H2.out.ge; omega); have hq2 : ¬ w.heap.size = w2.heap.size := (by omega); have HFS := hidden hfs; clear hc hg hfs)
        | (refine step_append_g knownSl (by simp [NSl]) _ (by rfl) _ _ (by rfl) (w.heap.size + 2) _ [s'] (by rfl) (row_lit w2 s' HFS.out _ H2.out.ge) _ x.se.n x.se.c C.se (by rfl) (by have hq := (HP.out (w2.alloc (.cells #[.int .i64 s'.p, .int .i64 s'.a, .int .i64 s'.b, .int .i64 s'.lo.f, .int .u64 s'.lo.h, .int .u64 s'.lo.l, .int .i64 s'.hi.f, .int .u64 s'.hi.h, .int .u64 s'.hi.l] 74)) (Kpt.low (H2.out.alloc (.cells #[.int .i64 s'.p, .int .i64 s'.a, .int .i64 s'.b, .int .i64 s'.lo.f, .int .u64 s'.lo.h, .int .u64 s'.lo.l, .int .i64 s'.hi.f, .int .u64 s'.hi.h, .int .u64 s'.hi.l] 74)).gr hkB)).se.src; rw [HPE.out] at hq; exact hq) (fun z hz => (HP.out w1 (Kpt.low H1.out.gr hkB)).se.ok z hz) (by unfold maxLen; simp; omega) (by simp; omega) (by have := H2.out.ge; simp; omega) ?_; intro v3 w3 hr3 hg3; obtain ⟨p3, c3, rfl⟩ := hr3.form rfl; have HR3 := hidden hr3; have H3 := hidden ((H2.out.alloc (.cells #[.int .i64 s'.p, .int .i64 s'.a, .int .i64 s'.b, .int .i64 s'.lo.f, .int .u64 s'.lo.h, .int .u64 s'.lo.l, .int .i64 s'.hi.f, .int .u64 s'.hi.h, .int .u64 s'.hi.l] 74)).row hk hbase hg3 H2.out.ge); have r14 := H3.out.S.c14; have rf := H3.out.S.fr; clear hr3 hg3)
        | fail)
      all_goals
        go_wp2
        clear s14 q14 r14 rf a0 a1 a2 a3 a4 a5 a6 a7 a8
        go_meet
      all_goals exact ⟨⟨x.t, x.pr, x.eg, x.ed, x.ik, x.id, x.am, x.ad, x.np, x.ns, x.nt, x.nd, x.dp, x.ds, ⟨p3, ([s'] ++ C.se).length, c3⟩, x.da⟩, ⟨C.pr, C.ed, C.id, C.ad, C.ns, C.nd, C.ds, [s'] ++ C.se, C.da⟩, H3.out.put hk hbase (wy := (w3.setCell ⟨w.heap.size, 14, none⟩ (.slice p3 ([s'] ++ C.se).length c3))) (grown_set _ _ _ _) (x' := ⟨x.t, x.pr, x.eg, x.ed, x.ik, x.id, x.am, x.ad, x.np, x.ns, x.nt, x.nd, x.dp, x.ds, ⟨p3, ([s'] ++ C.se).length, c3⟩, x.da⟩) (H3.out.S.setSe ⟨p3, ([s'] ++ C.se).length, c3⟩), fun w' hk1 hk2 => (have hh := HP.out w' hk1; ⟨hh.pr, hh.ed, hh.id, hh.ad, hh.ns, hh.nd, hh.ds, RowG.kp HR3.out rfl ((Kpt.low (grown_set _ _ _ _) (by omega)).trans hk2) (fun _ h => h), hh.da⟩)⟩
end Go.Proofs.YtmjagbghgbemaaaDoor
