/-
  The document's Issue of a certificate that is valid.
  Rows of certificates, and chains in which each one was signed by the owner of the next one's key.
-/
import Derived.Test.YtkniifopfgeopaaDoorHSchCert
namespace Go.Proofs.YtkniifopfgeopaaDoor
open Go.RowKit
set_option linter.unusedVariables false

theorem ret_ct {fn : Func} {R : Ending → World → Prop} {a : Act} {w : World} {p u : Nat} {g : Nat} {cs : Array Value} {v : Value} (h : fn.results = #[.cell p 37, .tmp u]) (hp : a.tmps.getD p undef = .pointer (some ⟨g, 0, none⟩)) (hu : a.tmps.getD u undef = v) (hd : a.defers = [])
    (hw : w.heap[g]? = some (.cells cs 37 (0, 0))) (hl : cs.size = 6) (hR : R (.returned (.tuple #[.agg cs, v])) w) : bodyPost Tryd.prog fn R .ret a w := by
  refine bodyPost_ret (v := .tuple #[.agg cs, v]) ?_ hd hR
  rw [results_cell_tmp h]
  simp only [hp]
  simp [Result.andThen, hu, asAddr, run_loadVar_row w g 37 37 cs (0, 0) _ hw Tryd.underlying37 rfl (by rw [infoC6, hl])]
/-- What Issue returns. -/
def IssTo (x : Ct) (sk : Nat) (w : World) (e : Ending) (w' : World) : Prop :=
  ∃ p' n' c', e = .returned (.tuple #[.agg #[.string x.s, .int .u64 (x.k : Int), .int .i64 x.f, .int .i64 x.t, .bool x.a, .slice p' n' c'], .int .i64 0]) ∧ Bod w' w.heap.size p' n' c' (sigL sk (bdL x)) ∧ Below w.heap.size w w'

set_option maxHeartbeats 1600000 in
set_option maxRecDepth 100000 in
theorem rissue_ok (x : Ct) (h : CtOk x) (sk : Nat) (h1 : 1 ≤ sk) (h2 : sk < gq) (w : World) :
    Calls Tryd.prog 21 #[.agg #[.string x.s, .int .u64 (x.k : Int), .int .i64 x.f, .int .i64 x.t, .bool x.a, .slice x.p x.n x.c], .int .u64 (sk : Int)] w (IssTo x sk w) := by
  have HBO := hidden (fun W => rbodyS_ok x h W)
  have hbl := bdL_len x
  have hle := h.nm.le
  have hsl : sk < 18446744073709551616 := Nat.lt_trans h2 gq_big
  have HSI := hidden (fun (q : Option Addr) (d : Nat) W (hW : Byt W q (x.s.size + 18) d (bdL x)) => rsignS_bod sk hsl q (x.s.size + 18) d (bdL x) W hW (by omega))
  have hE : pubE sk = 0 := by unfold pubE; rw [if_pos (gsec_yes sk ⟨h1, h2⟩)]
  rw [hE] at HSI
  have HBL := Is.mk hbl
  unfold IssTo
  generalize sigL sk (bdL x) = SG at *
  generalize bdL x = L at *
  obtain ⟨s, k, f, t, a, p, n, c, gg⟩ := x
  simp only at *
  clear h h1 h2 hsl hE hbl hle
  have hr0 : ((w.alloc (.cells #[.string s, .int .u64 (k : Int), .int .i64 f, .int .i64 t, .bool a, .slice p n c] 37)).alloc (.cells zeroC 37)).heap[w.heap.size]? = some (.cells #[.string s, .int .u64 (k : Int), .int .i64 f, .int .i64 t, .bool a, .slice p n c] 37 (0, 0)) := by
    rw [Below.heap_alloc _ _ _ (by simp)]; exact heap_alloc_new w _
  have hr1 : ((w.alloc (.cells #[.string s, .int .u64 (k : Int), .int .i64 f, .int .i64 t, .bool a, .slice p n c] 37)).alloc (.cells zeroC 37)).heap[w.heap.size + 1]? = some (.cells zeroC 37 (0, 0)) := heap_alloc2_new w _ _
  have hb0 : Below w.heap.size w ((w.alloc (.cells #[.string s, .int .u64 (k : Int), .int .i64 f, .int .i64 t, .bool a, .slice p n c] 37)).alloc (.cells zeroC 37)) := ((Below.refl _ w).alloc (Nat.le_refl _) _).alloc (by simp) _
  have HR0 := hidden hr0
  have HR1 := hidden hr1
  have HB0 := hidden hb0
  clear hr0 hr1 hb0
  go_enter Tryd.func21, Tryd.ntmps21
  go_upto_region 1 with fail
  generalize hw1 : World.alloc (World.alloc w _) _ = w1
  have hr0 : w1.heap[w.heap.size]? = some (.cells #[.string s, .int .u64 (k : Int), .int .i64 f, .int .i64 t, .bool a, .slice p n c] 37 (0, 0)) := by rw [← hw1]; exact HR0.out
  have hr1 : w1.heap[w.heap.size + 1]? = some (.cells zeroC 37 (0, 0)) := by rw [← hw1]; exact HR1.out
  have hb1 : Below w.heap.size w w1 := by rw [← hw1]; exact HB0.out
  obtain ⟨G, hG⟩ : ∃ G, w.heap.size = G := ⟨_, rfl⟩
  have HG := Is.mk hG
  rw [hG] at hr0 hr1 hb1
  have hGl : G + 1 < w1.heap.size := (Array.getElem?_eq_some_iff.1 hr1).1
  have HRA := hidden (fun W (hW : Below w1.heap.size w1 W) => (by rw [hW.block G (by omega)]; exact hr0 : W.heap[G]? = some (.cells #[.string s, .int .u64 (k : Int), .int .i64 f, .int .i64 t, .bool a, .slice p n c] 37 (0, 0))))
  have HRB := hidden (fun W (hW : Below w1.heap.size w1 W) => (by rw [hW.block (G + 1) (by omega)]; exact hr1 : W.heap[G + 1]? = some (.cells zeroC 37 (0, 0))))
  have HBW := hidden hb1
  simp only [hG]
  clear hw1 HR0 HR1 HB0 hr1 hb1 hG
  go_upto_region 4 with (first
    | (refine wpList_load_row rfl 37 _ rfl G rfl 37 _ (0, 0) _ hr0 Tryd.underlying37 rfl infoC6 ?_)
    | (go_at_call 23; (with_reducible refine (HBO.out _).mono ?_); rintro e w2 ⟨p2, n2, c2, rfl, hy2, hb2⟩; have hn2 := hy2.len; rw [HBL.eq] at hn2; subst hn2; have HSX := hidden (HSI.out p2 c2 w2 hy2); have HB2 := hidden hb2; clear hy2 hb2)
    | fail)
  clear hr0
  go_upto_region 7 with (first
    | (go_at_call 39; (with_reducible refine (HSX.out).mono ?_); rintro e w3 ⟨p3, n3, c3, rfl, hy3, hb3⟩; have HY3 := hidden (hy3.mono HB2.out.size); have HB3 := hidden (HB2.out.trans (hb3.mono HB2.out.size)); clear hy3 hb3)
    | fail)
  have hr3 := HRA.out w3 HB3.out
  have hq3 := HRB.out w3 HB3.out
  have hcell : w3.cell? ⟨G, 5, none⟩ = some (.slice p n c) := by rw [cell_of_row w3 G 5 _ _ _ hr3]; rfl
  have hfro : w3.frozen? ⟨G, 5, none⟩ = false := frozen_of_row w3 G 5 _ _ hr3
  have hset := setCell_eq_setRow w3 G 5 _ 37 (0, 0) (.slice p3 n3 c3) hr3
  have hr4 : (w3.setCell ⟨G, 5, none⟩ (.slice p3 n3 c3)).heap[G]? = some (.cells #[.string s, .int .u64 (k : Int), .int .i64 f, .int .i64 t, .bool a, .slice p3 n3 c3] 37 (0, 0)) := by
    rw [hset]; exact setRow_heap w3 G _ _ _ _ hr3
  have hq4 : (w3.setCell ⟨G, 5, none⟩ (.slice p3 n3 c3)).heap[G + 1]? = some (.cells zeroC 37 (0, 0)) := by
    rw [hset, setRow_other _ _ _ _ (by omega)]; exact hq3
  have HW3 := HBW.out
  have hz13 : w1.heap.size ≤ w3.heap.size := HB3.out.size
  have hy4 : Bod (w3.setCell ⟨G, 5, none⟩ (.slice p3 n3 c3)) w1.heap.size p3 n3 c3 SG := HY3.out.grown (grown_set w3 G 5 _) (OffB.low (by omega))
  have hb4 : Below G w (w3.setCell ⟨G, 5, none⟩ (.slice p3 n3 c3)) := (HBW.out.trans (HB3.out.mono (by omega))).setCell (p := ⟨G, 5, none⟩) (Nat.le_refl _) _
  have HR4 := hidden hr4
  have HQ4 := hidden hq4
  have HY4 := hidden hy4
  have HB4 := hidden hb4
  clear hset hr4 hq4 hr3 hq3 hy4 hb4
  go_upto_region 8 with fail
  clear hcell hfro
  generalize World.setCell w3 _ _ = w4 at *
  go_wp2_with (first
    | (refine wpList_load_row rfl 37 _ rfl G rfl 37 _ (0, 0) _ HR4.out Tryd.underlying37 rfl infoC6 ?_)
    | (refine wpList_store_row rfl 37 _ _ rfl (G + 1) #[.string s, .int .u64 (k : Int), .int .i64 f, .int .i64 t, .bool a, .slice p3 n3 c3] rfl rfl 37 _ HQ4.out infoC6 rfl (by kernel_rfl) ?_)
    | fail)
  refine ret_ct rfl rfl rfl rfl (setRow_heap w4 (G + 1) _ _ _ _ HQ4.out) rfl ?_
  exact ⟨p3, n3, c3, rfl, by rw [HG.eq]; exact (HY4.out.grown (row_grown1 w4 (G + 1) _) (OffB.low (by omega))).mono (by omega), by rw [HG.eq]; exact below_setRow HB4.out (by omega) _⟩
end Go.Proofs.YtkniifopfgeopaaDoor

namespace Go.Proofs.YtkniifopfgeopaaDoor
open Go.RowKit
set_option linter.unusedVariables false

/-- The row of these certificates, whole. -/
structure RwE (W : World) (g : Nat) (L : List Ct) : Prop where
  heap : W.heap[g]? = some (.cells (KCt.row L).toArray 37 (0, 0))
theorem RwE.lt {W : World} {g : Nat} {L : List Ct} (h : RwE W g L) : g < W.heap.size := (Array.getElem?_eq_some_iff.1 h.heap).1
theorem RwE.grown {W W' : World} {g : Nat} {L : List Ct} {row : Option Nat} (h : RwE W g L) (hg : W.grownBy W' row) (hr : some g ≠ row) : RwE W' g L := ⟨by rw [hg.block g h.lt hr]; exact h.heap⟩
theorem RwE.below {W W' : World} {g : Nat} {L : List Ct} (h : RwE W g L) (hb : Below W.heap.size W W') : RwE W' g L := ⟨by rw [hb.block g h.lt]; exact h.heap⟩
theorem RwE.off {W : World} {g base : Nat} {L : List Ct} (h : RwE W g L) : OffB W base (some g) := fun r hr => Or.inr (fun cur fz e => by
  cases hr
  rw [h.heap] at e
  simp at e)
theorem row_patch (L : List Ct) (j : Nat) (hj : j < L.length) (y : Ct) : patch (KCt.row L) (KCt.cs y) (j * 6) = KCt.row (L.set j y) := by
  have e1 : KCt.row L = KCt.row (L.take j) ++ (KCt.cs L[j] ++ KCt.row (L.drop (j + 1))) := by
    rw [← KCt.row_cons, ← KCt.row_append, List.getElem_cons_drop, List.take_append_drop]
  have e2 : KCt.row (L.set j y) = KCt.row (L.take j) ++ (KCt.cs y ++ KCt.row (L.drop (j + 1))) := by
    rw [List.set_eq_take_append_cons_drop, if_pos hj, KCt.row_append, KCt.row_cons]
  have l1 : (KCt.row (L.take j)).length = j * 6 := by rw [KCt.row_len, List.length_take, Nat.min_eq_left (by omega)]; rfl
  have l2 : (KCt.cs L[j]).length = 6 := rfl
  have l3 : (KCt.cs y).length = 6 := rfl
  unfold patch
  rw [e2, l3]
  conv => lhs; rw [e1]
  rw [List.take_append_of_le_length (by omega), List.take_of_length_le (by omega)]
  have e3 : (KCt.row (L.take j) ++ (KCt.cs L[j] ++ KCt.row (L.drop (j + 1)))).drop (j * 6 + 6) = KCt.row (L.drop (j + 1)) := by
    rw [← List.append_assoc, List.drop_append_of_le_length (by simp; omega), List.drop_of_length_le (by simp; omega), List.nil_append]
  rw [e3, List.append_assoc]
def zc : Ct := ⟨⟨#[]⟩, 0, 0, 0, false, none, 0, 0, []⟩
theorem mk_row (n : Nat) (hn : n = 1 ∨ n = 2 ∨ n = 3) (w : World) : (Instr.makeSlice 27 (.int .i64 n) (.int .i64 n)).run Tryd.prog w = .ok (.slice (some ⟨w.heap.size, 0, none⟩) n n) (w.alloc (.cells (KCt.row (List.replicate n zc)).toArray 37)) := by
  rcases hn with rfl | rfl | rfl <;> kernel_rfl
/-- A certificate as they are drawn. -/
structure CtG (x : Ct) : Prop where
  ok : CtOk x
  f0 : 0 ≤ x.f ∧ x.f < 10
  t0 : 20 ≤ x.t ∧ x.t < 80
  gl : x.g.length = 16
/-- The key that has signed the certificate before this place. -/
def keyAt (A : Nat) (L : List Ct) (j : Nat) : Nat := (L[j]?.map Ct.k).getD A
theorem keyAt_end (A : Nat) (L : List Ct) (j : Nat) (h : L.length ≤ j) : keyAt A L j = A := by unfold keyAt; rw [List.getElem?_eq_none h]; rfl
theorem keyAt_in (A : Nat) (L : List Ct) (j : Nat) (h : j < L.length) : keyAt A L j = L[j].k := by unfold keyAt; rw [List.getElem?_eq_getElem h]; rfl
def SigAt (A : Nat) (L : List Ct) (j : Nat) : Prop := ∀ x, L[j]? = some x → CtG x ∧ (0 < j → x.a = true) ∧ verE (keyAt A L (j + 1)) (bdL x) x.g = 0
theorem sigAt_set (A : Nat) (L : List Ct) (i : Nat) (hi : i < L.length) (y : Ct) (hs : ∀ j, i + 1 ≤ j → SigAt A L j) (hy : CtG y ∧ (0 < i → y.a = true) ∧ verE (keyAt A L (i + 1)) (bdL y) y.g = 0) : ∀ j, i ≤ j → SigAt A (L.set i y) j := by
  intro j hj x hx
  have hk : ∀ m, i < m → keyAt A (L.set i y) m = keyAt A L m := fun m hm => by unfold keyAt; rw [List.getElem?_set_ne (by omega)]
  rw [hk (j + 1) (by omega)]
  by_cases he : j = i
  · subst he
    rw [List.getElem?_set_self hi] at hx
    simp at hx
    subst hx
    exact hy
  · rw [List.getElem?_set_ne (by omega)] at hx
    exact hs j (by omega) x hx
theorem keyAt_set (A : Nat) (L : List Ct) (i : Nat) (hi : i < L.length) (y : Ct) : keyAt A (L.set i y) i = y.k := by unfold keyAt; rw [List.getElem?_set_self hi]; rfl
end Go.Proofs.YtkniifopfgeopaaDoor
