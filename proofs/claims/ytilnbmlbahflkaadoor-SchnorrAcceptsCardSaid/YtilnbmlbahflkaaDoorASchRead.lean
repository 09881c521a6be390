/-
  schnorr.readOne of a certificate that was written.
-/
import Derived.Test.YtilnbmlbahflkaaDoorASchCuts
import Derived.Test.YtilnbmlbahflkaaDoorAZ5
namespace Go.Proofs.YtilnbmlbahflkaaDoor
open Go.RowKit
set_option linter.unusedVariables false

theorem results_cell_tmp2 {fn : Func} {p u v : Tmp} {ty : TypeId} (h : fn.results = #[.cell p ty, .tmp u, .tmp v]) (tmps : Array Value) (P : Program) (w : World) :
    (results fn tmps).run P w =
      ((asAddr (tmps.getD p undef)).run P w).andThen fun a w₁ => ((loadVar ty a).run P w₁).andThen fun x w₂ => .ok (.tuple #[x, tmps.getD u undef, tmps.getD v undef]) w₂ := by
  simp only [results, h]
  simp [Sem.run_bind, Result.andThen]
theorem ret_ct3 {fn : Func} {R : Ending → World → Prop} {a : Act} {w : World} {p u u' : Nat} {g : Nat} {cs : Array Value} {v v' : Value} (h : fn.results = #[.cell p 47, .tmp u, .tmp u']) (hp : a.tmps.getD p undef = .pointer (some ⟨g, 0, none⟩)) (hu : a.tmps.getD u undef = v) (hu' : a.tmps.getD u' undef = v') (hd : a.defers = [])
    (hw : w.heap[g]? = some (.cells cs 47 (0, 0))) (hl : cs.size = 6) (hR : R (.returned (.tuple #[.agg cs, v, v'])) w) : bodyPost Tryd.prog fn R .ret a w := by
  refine bodyPost_ret (v := .tuple #[.agg cs, v, v']) ?_ hd hR
  rw [results_cell_tmp2 h]
  simp only [hp]
  simp [Result.andThen, hu, hu', asAddr, run_loadVar_row w g 47 47 cs (0, 0) _ hw Tryd.underlying47 rfl (by rw [infoC6, hl])]
set_option maxHeartbeats 800000 in
theorem numW_any (p : Option Addr) (n c : Nat) (xs : List Int) (w : World) (h : Byt w p n c xs) (a k : Nat) (h1 : 1 ≤ k) (h8 : k ≤ 8) (ha : a + k ≤ n) :
    Calls Tryd.prog 40 #[.slice p n c, .int .i64 (a : Int), .int .i64 (k : Int)] w fun e w' => e = .returned (.int .u64 (val ((xs.drop a).take k))) ∧ w = w' := by
  have HN := hidden (number_yes p n c xs w h a k h1 h8 ha)
  clear h
  generalize val ((xs.drop a).take k) = v at *
  go_enter Tryd.func40, Tryd.ntmps40
  go_wp2_with (first
    | (go_at_call 68; (with_reducible refine (HN.out).mono ?_); rintro e w2 ⟨rfl, rfl⟩)
    | fail)
  go_ret
  exact ⟨rfl, rfl⟩
/-- What readOne keeps: its own two certificates. -/
structure RdI (w W : World) (row : Array Value) : Prop where
  sz : row.size = 6
  cc : W.heap[w.heap.size + 1]? = some (.cells row 47 (0, 0))
  rr : W.heap[w.heap.size]? = some (.cells zeroC 47 (0, 0))
  bel : Below w.heap.size w W
theorem RdI.lt {w W : World} {row : Array Value} (h : RdI w W row) : w.heap.size + 1 < W.heap.size := (Array.getElem?_eq_some_iff.1 h.cc).1
theorem RdI.below {w W W' : World} {row : Array Value} (h : RdI w W row) (hb : Below W.heap.size W W') : RdI w W' row :=
  ⟨h.sz, by rw [hb.block _ h.lt]; exact h.cc, by rw [hb.block _ (by have := h.lt; omega)]; exact h.rr, h.bel.trans (hb.mono h.bel.size)⟩
theorem RdI.put {w W : World} {row : Array Value} (h : RdI w W row) (i : Nat) (u : Value) : RdI w (W.setCell ⟨w.heap.size + 1, i, none⟩ u) (row.setIfInBounds i u) := by
  have e := setCell_eq_setRow W (w.heap.size + 1) i row 47 (0, 0) u h.cc
  refine ⟨by rw [Array.size_setIfInBounds]; exact h.sz, ?_, ?_, h.bel.setCell (by simp) _⟩
  · rw [e]
    exact setRow_heap _ _ _ _ _ _ h.cc
  · rw [e, setRow_other _ _ _ _ (by omega)]
    exact h.rr
theorem RdI.cell {w W : World} {row : Array Value} (h : RdI w W row) (i : Nat) : W.cell? ⟨w.heap.size + 1, i, none⟩ = row[i]? := cell_of_row _ _ _ _ _ _ h.cc
theorem RdI.frz {w W : World} {row : Array Value} (h : RdI w W row) (i : Nat) : W.frozen? ⟨w.heap.size + 1, i, none⟩ = false := frozen_of_row _ _ _ _ _ h.cc
theorem RdI.new (w : World) : RdI w ((w.alloc (.cells zeroC 47)).alloc (.cells zeroC 47)) zeroC :=
  ⟨rfl, heap_alloc2_new w _ _, by rw [Below.heap_alloc _ _ _ (by simp)]; exact heap_alloc_new w _, ((Below.refl _ w).alloc (Nat.le_refl _) _).alloc (by simp) _⟩
theorem RdI.off {w W : World} {row : Array Value} (h : RdI w W row) (base : Nat) : OffB W base (some (w.heap.size + 1)) := fun r hr => Or.inr (fun cur fz e => by
  cases hr
  rw [h.cc] at e
  simp at e)
theorem RdI.bod {w W : World} {row : Array Value} (h : RdI w W row) (i : Nat) (u : Value) {base : Nat} {q : Option Addr} {n d : Nat} {g : List Int} (hy : Bod W base q n d g) : Bod (W.setCell ⟨w.heap.size + 1, i, none⟩ u) base q n d g := hy.grown (grown_set _ _ _ _) (h.off base)

/-- What readOne returns. -/
def RdTo (x : Ct) (w : World) (e : Ending) (w' : World) : Prop :=
  ∃ q d, e = .returned (.tuple #[.agg #[.string x.s, .int .u64 (x.k : Int), .int .i64 x.f, .int .i64 x.t, .bool x.a, .slice q 16 d], .int .i64 (1 + (x.s.size : Int) + 8 + 4 + 4 + 1 + 16), .bool true]) ∧ Bod w' w.heap.size q 16 d x.g ∧ Below w.heap.size w w'

set_option maxHeartbeats 3200000 in
set_option maxRecDepth 100000 in
theorem read_ok (x : Ct) (h : CtG x) (rest : List Int) (p : Option Addr) (N c : Nat) (w : World) (hN : N ≤ 1000) (hy : Byt w p N c (bdL x ++ (x.g ++ rest))) :
    Calls Tryd.prog 58 #[.slice p N c] w (RdTo x w) := by
  obtain ⟨d0, d1, d2, d3, d4, d5, d6, d7, d8, d9⟩ := ctCut x rest h.gl
  have hl := hy.len
  have hBO : ∀ (q : Option Addr) (d : Nat) (W : World), Calls Tryd.prog 29 #[.agg #[.string x.s, .int .u64 (x.k : Int), .int .i64 x.f, .int .i64 x.t, .bool x.a, .slice q 16 d]] W (BdTo (bdL x) W) :=
    fun q d W => bodyS_ok ⟨x.s, x.k, x.f, x.t, x.a, q, 16, d, x.g⟩ ⟨h.ok.nm, h.ok.kl, h.ok.ke, h.ok.f0, h.ok.ft, h.ok.t1⟩ W
  have HBO := hidden hBO
  have HGL := Is.mk h.gl
  have hle := h.ok.nm.le
  have hpos := h.ok.nm.pos
  have hkl := h.ok.kl
  have hf0 := h.f0
  have ht0 := h.t0
  have hbl := bdL_len x
  have hnl := nums_letters x.s
  have v1 := val_gbytes x.k hkl
  have v2 := val_be4 x.f (by omega) (by omega)
  have v3 := val_be4 x.t (by omega) (by omega)
  unfold RdTo
  generalize hXX : bdL x ++ (x.g ++ rest) = X at *
  clear hXX
  generalize bdL x = BL at *
  obtain ⟨s, k, f, t, a, qz, nz, dz, gg⟩ := x
  simp only at *
  clear h hBO
  generalize hS : s.size = S at *
  obtain ⟨b, o, rfl, hcell⟩ := hy.at_ (by omega)
  have hcap := hy.cap
  have hc1 : ¬ c = 1 := by omega
  have hNl : 1 + S + 8 + 4 + 4 + 1 + 16 ≤ N := by omega
  have hcX0 := hcell 0 (by omega)
  have hcX5 := hcell (1 + S + 8 + 4 + 4) (by omega)
  rw [d0, Nat.add_zero] at hcX0
  rw [d5] at hcX5
  have HAU : Hid (((if a = true then 1 else 0 : Int) == 1) = a) := hidden (by cases a <;> rfl)
  generalize (if a = true then (1 : Int) else 0) = V at *
  have hbw := hy.lt (by omega)
  have HC0 := hidden (fun W (hW : Below w.heap.size w W) => cell_below hW _ _ hcX0)
  have HC5 := hidden (fun W (hW : Below w.heap.size w W) => cell_below hW _ _ hcX5)
  have HSL := hidden (fun W (hW : Below w.heap.size w W) => slice_bod (some ⟨b, o, none⟩) N c X W (hy.below hW) (by omega) (1 + (S : Int) + 8 + 4 + 4 + 1) 16 (by omega) (by omega))
  rw [d6] at HSL
  have HN1 := hidden (fun W (hW : Below w.heap.size w W) => numW_any (some ⟨b, o, none⟩) N c X W (hy.below hW) (1 + S) 8 (by omega) (by omega) (by omega))
  rw [d2, v1, show ((1 + S : Nat) : Int) = 1 + (S : Int) by omega, show ((8 : Nat) : Int) = 8 from rfl] at HN1
  have HN2 := hidden (fun W (hW : Below w.heap.size w W) => numW_any (some ⟨b, o, none⟩) N c X W (hy.below hW) (1 + S + 8) 4 (by omega) (by omega) (by omega))
  rw [d3, v2, show ((1 + S + 8 : Nat) : Int) = 1 + (S : Int) + 8 by omega, show ((4 : Nat) : Int) = 4 from rfl] at HN2
  have HN3 := hidden (fun W (hW : Below w.heap.size w W) => numW_any (some ⟨b, o, none⟩) N c X W (hy.below hW) (1 + S + 8 + 4) 4 (by omega) (by omega) (by omega))
  rw [d4, v3, show ((1 + S + 8 + 4 : Nat) : Int) = 1 + (S : Int) + 8 + 4 by omega, show ((4 : Nat) : Int) = 4 from rfl] at HN3
  have HCV := hidden (fun W (hW : Below w.heap.size w W) => (by
    have h9 := (hy.below hW).part 1 (1 + S) (by omega) (by omega)
    rw [if_neg hc1, d1, show 1 + S - 1 = S by omega] at h9
    have h8 := conv_byt (P := Tryd.prog) h9 22 5 9 Tryd.underlying22 Tryd.underlying5 Tryd.underlying9
    rw [hnl] at h8
    exact h8 : (convert 22 9 (.slice (some ⟨b, o + 1, none⟩) S (c - 1))).run Tryd.prog W = .ok (.string s) W))
  have HEQ := hidden (fun (q : Option Addr) (d : Nat) W (hW : Below w.heap.size w W) (hq : Byt W q (S + 18) d BL) => (by
    have h9 := (hy.below hW).front (1 + S + 8 + 4 + 4 + 1) (by omega)
    rw [d7] at h9
    have h8 := equal_any q (some ⟨b, o, none⟩) (S + 18) d (1 + S + 8 + 4 + 4 + 1) c BL BL W hq h9
    rw [decide_eq_true (rfl : BL = BL)] at h8
    exact h8 : Calls Tryd.prog 79 #[.slice q (S + 18) d, .slice (some ⟨b, o, none⟩) (1 + S + 8 + 4 + 4 + 1) c] W fun e w' => e = .returned (.bool true) ∧ W = w'))
  have HBL := Is.mk hbl
  have hb2 : ¬ (w.heap.size + 1 = b) := by omega
  have HIN := hidden (RdI.new w)
  clear hy hcell hcX0 hcX5 d0 d1 d2 d3 d4 d5 d6 d7 d8 d9 v1 v2 v3 hl hnl hbl
  go_enter Tryd.func58, Tryd.ntmps58
  go_upto_region 2 with fail
  generalize hw1 : World.alloc (World.alloc w _) _ = w1
  have HI1 : Hid (RdI w w1 zeroC) := by rw [← hw1]; exact HIN
  have hc0 := HC0.out w1 HI1.out.bel
  clear hw1 HIN
  go_upto_region 8 with (first
    | (go_at_call 78; (with_reducible refine (HSL.out _ HI1.out.bel).mono ?_); rintro e w2 ⟨q, n2, d, rfl, hy2, hb2⟩; have hn2 := hy2.byt.len; rw [HGL.eq] at hn2; subst hn2; have HI2 := hidden (HI1.out.below hb2); have HY2 := hidden (hy2.mono HI1.out.bel.size); clear hy2 hb2)
    | fail)
  have hcv := HCV.out w2 HI2.out.bel
  have hk0 : w2.cell? ⟨w.heap.size + 1, 0, none⟩ = some (.string ⟨#[]⟩) := HI2.out.cell 0
  have hz0 := HI2.out.frz 0
  clear HC0 hc0
  go_upto_region 11 with fail
  have HI3 : Hid (RdI w (w2.setCell ⟨w.heap.size + 1, 0, none⟩ (.string s)) #[.string s, .int .u64 0, .int .i64 0, .int .i64 0, .bool false, .slice none 0 0]) := hidden (HI2.out.put 0 (.string s))
  have HY3 := hidden (HI2.out.bod 0 (.string s) HY2.out)
  generalize World.setCell w2 _ _ = w3 at *
  clear hcv hk0 hz0 HI2 HY2
  have hk1 : w3.cell? ⟨w.heap.size + 1, 1, none⟩ = some (.int .u64 0) := HI3.out.cell 1
  have hz1 := HI3.out.frz 1
  go_upto_region 12 with (first
    | (go_at_call 40; (with_reducible refine (HN1.out _ HI3.out.bel).mono ?_); rintro e w2b ⟨rfl, rfl⟩)
    | fail)
  have HI4 : Hid (RdI w (w3.setCell ⟨w.heap.size + 1, 1, none⟩ (.int .u64 (k : Int))) #[.string s, .int .u64 (k : Int), .int .i64 0, .int .i64 0, .bool false, .slice none 0 0]) := hidden (HI3.out.put 1 (.int .u64 (k : Int)))
  have HY4 := hidden (HI3.out.bod 1 (.int .u64 (k : Int)) HY3.out)
  generalize World.setCell w3 _ _ = w4 at *
  clear hk1 hz1 HI3 HY3 HN1
  have hk2 : w4.cell? ⟨w.heap.size + 1, 2, none⟩ = some (.int .i64 0) := HI4.out.cell 2
  have hz2 := HI4.out.frz 2
  have hk3 : w4.cell? ⟨w.heap.size + 1, 3, none⟩ = some (.int .i64 0) := HI4.out.cell 3
  have hz3 := HI4.out.frz 3
  go_upto_region 13 with (first
    | (go_at_call 40; (with_reducible refine (HN2.out _ HI4.out.bel).mono ?_); rintro e w2b ⟨rfl, rfl⟩)
    | (go_at_call 40; (with_reducible refine (HN3.out _ HI4.out.bel).mono ?_); rintro e w2b ⟨rfl, rfl⟩)
    | fail)
  have HI5 : Hid (RdI w ((w4.setCell ⟨w.heap.size + 1, 2, none⟩ (.int .i64 f)).setCell ⟨w.heap.size + 1, 3, none⟩ (.int .i64 t)) #[.string s, .int .u64 (k : Int), .int .i64 f, .int .i64 t, .bool false, .slice none 0 0]) := hidden ((HI4.out.put 2 (.int .i64 f)).put 3 (.int .i64 t))
  have HY5 := hidden ((HI4.out.put 2 (.int .i64 f)).bod 3 (.int .i64 t) (HI4.out.bod 2 (.int .i64 f) HY4.out))
  generalize World.setCell (World.setCell w4 _ _) _ _ = w5 at *
  clear hk2 hz2 hk3 hz3 HI4 HY4 HN2 HN3
  have hk4 : w5.cell? ⟨w.heap.size + 1, 4, none⟩ = some (.bool false) := HI5.out.cell 4
  have hz4 := HI5.out.frz 4
  have hc5 := HC5.out w5 HI5.out.bel
  have hau := HAU.out
  have hix0 : (0 : Int) ≤ 1 + (S : Int) + 8 + 4 + 4 := by omega
  have hix1 : 1 + (S : Int) + 8 + 4 + 4 < (N : Int) := by omega
  go_upto_region 14 with fail
  have HI6 : Hid (RdI w (w5.setCell ⟨w.heap.size + 1, 4, none⟩ (.bool a)) #[.string s, .int .u64 (k : Int), .int .i64 f, .int .i64 t, .bool a, .slice none 0 0]) := hidden (HI5.out.put 4 (.bool a))
  have HY6 := hidden (HI5.out.bod 4 (.bool a) HY5.out)
  generalize World.setCell w5 _ _ = w6 at *
  clear hk4 hz4 hc5 hau hix0 hix1 HI5 HY5 HC5
  have hk5 : w6.cell? ⟨w.heap.size + 1, 5, none⟩ = some (.slice none 0 0) := HI6.out.cell 5
  have hz5 := HI6.out.frz 5
  go_upto_region 15 with fail
  have HI7 : Hid (RdI w (w6.setCell ⟨w.heap.size + 1, 5, none⟩ (.slice q 16 d)) #[.string s, .int .u64 (k : Int), .int .i64 f, .int .i64 t, .bool a, .slice q 16 d]) := hidden (HI6.out.put 5 (.slice q 16 d))
  have HY7 := hidden (HI6.out.bod 5 (.slice q 16 d) HY6.out)
  generalize World.setCell w6 _ _ = w7 at *
  clear hk5 hz5 HI6 HY6
  have hr7 := HI7.out.cc
  go_upto_region 16 with (first
    | (refine wpList_load_row rfl 47 _ rfl (w.heap.size + 1) rfl 47 _ (0, 0) _ hr7 Tryd.underlying47 rfl infoC6 ?_)
    | (go_at_call 29; (with_reducible refine (HBO.out _ _ _).mono ?_); rintro e w8 ⟨p8, n8, c8, rfl, hy8, hb8⟩; have hn8 := hy8.len; rw [HBL.eq] at hn8; subst hn8; have HI8 := hidden (HI7.out.below hb8); have HY8 := hidden (HY7.out.below hb8); have HQ8 := hidden (HEQ.out p8 c8 w8 HI8.out.bel hy8); clear hy8 hb8)
    | fail)
  clear hr7 HI7 HY7 HEQ HBO
  have hr8 := HI8.out.cc
  have hix2 : (0 : Int) ≤ 1 + (S : Int) + 8 + 4 + 4 + 1 := by omega
  have hix3 : 1 + (S : Int) + 8 + 4 + 4 + 1 ≤ (c : Int) := by omega
  go_upto_region 18 with (first
    | (go_at_call 79; (with_reducible refine (HQ8.out).mono ?_); rintro e w9 ⟨rfl, rfl⟩)
    | fail)
  have HR8 := hidden hr8
  have HG8 := hidden HI8.out.rr
  have HB8 := hidden HI8.out.bel
  have HY9 := hidden (HY8.out.grown (row_grown1 w8 w.heap.size #[.string s, .int .u64 (k : Int), .int .i64 f, .int .i64 t, .bool a, .slice q 16 d]) (fun r hr => Or.inr (fun cur fz e => by cases hr; rw [HG8.out] at e; simp at e)))
  clear HI8 HY8 HQ8 hix2 hix3
  go_wp2_with (first
    | (refine wpList_load_row rfl 47 _ rfl (w.heap.size + 1) rfl 47 _ (0, 0) _ HR8.out Tryd.underlying47 rfl infoC6 ?_)
    | (refine wpList_store_row rfl 47 _ _ rfl w.heap.size #[.string s, .int .u64 (k : Int), .int .i64 f, .int .i64 t, .bool a, .slice q 16 d] rfl rfl 47 _ HG8.out infoC6 rfl (by kernel_rfl) ?_)
    | fail)
  refine ret_ct3 rfl rfl rfl rfl rfl (setRow_heap w8 w.heap.size _ _ _ _ HG8.out) rfl ?_
  exact ⟨q, d, rfl, HY9.out, below_setRow HB8.out (Nat.le_refl _) _⟩
end Go.Proofs.YtilnbmlbahflkaaDoor
