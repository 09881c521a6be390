/-
  Issue of any certificate under a secret: schnorr's and the document's.
-/
import Derived.Test.YtkniifopfgeopaaDoorHRSchDecG
namespace Go.Proofs.YtkniifopfgeopaaDoor
open Go.RowKit
set_option linter.unusedVariables false

/-- What Issue returns. -/
def IssG (x : Ct) (sk : Nat) (w : World) (e : Ending) (w' : World) : Prop :=
  ((bodyE x = 0 ∧ ∃ p' n' c', e = .returned (.tuple #[.agg #[.string x.s, .int .u64 (x.k : Int), .int .i64 x.f, .int .i64 x.t, .bool x.a, .slice p' n' c'], .int .i64 0]) ∧ Bod w' w.heap.size p' n' c' (sigL sk (bdL x))) ∨
    (bodyE x ≠ 0 ∧ e = .returned (.tuple #[.agg zeroC, .int .i64 (bodyE x)]))) ∧ Below w.heap.size w w'
/-- Bytes stay as they are where a row without bytes is written. -/
theorem Byt.grown_ct {w w' : World} {r : Nat} {cs : Array Value} {T : TypeId} {fz : Nat × Nat} {p : Option Addr} {n c : Nat} {xs : List Int} (h : Byt w p n c xs) (hg : w.grownBy w' (some r)) (hr : w.heap[r]? = some (.cells cs T fz)) (hcs : ∀ u ∈ cs.toList, ∀ x, u ≠ Value.int .u8 x) : Byt w' p n c xs := by
  refine ⟨h.len, h.cap, h.big, h.rng, fun h0 => ?_⟩
  obtain ⟨b, o, e, hc⟩ := h.mem h0
  refine ⟨b, o, e, fun i hi => ?_⟩
  have hc' := hc i hi
  have hne : b ≠ r := by
    rintro rfl
    rw [cell_of_row _ _ _ _ _ _ hr] at hc'
    have h9 := List.mem_of_getElem? (by rw [Array.getElem?_toList]; exact hc' : cs.toList[o + i]? = _)
    exact hcs _ h9 _ rfl
  exact hg.cell hc' (by simp; omega)

set_option maxHeartbeats 1600000 in
set_option maxRecDepth 100000 in
theorem rissue_no (x : Ct) (v : CtV x) (h0 : bodyE x ≠ 0) (sk : Nat) (w : World) :
    Calls Tryd.prog 21 #[.agg #[.string x.s, .int .u64 (x.k : Int), .int .i64 x.f, .int .i64 x.t, .bool x.a, .slice x.p x.n x.c], .int .u64 (sk : Int)] w fun e w' => e = .returned (.tuple #[.agg zeroC, .int .i64 (bodyE x)]) ∧ Below w.heap.size w w' := by
  have HBO := hidden (fun W => rbodyS_any x v W)
  unfold BdG at HBO
  generalize bodyE x = E at *
  obtain ⟨s, k, f, t, a, p, n, c, gg⟩ := x
  simp only at *
  clear v
  have HR0 : Hid (((w.alloc (.cells #[.string s, .int .u64 (k : Int), .int .i64 f, .int .i64 t, .bool a, .slice p n c] 37)).alloc (.cells zeroC 37)).heap[w.heap.size]? = some (.cells #[.string s, .int .u64 (k : Int), .int .i64 f, .int .i64 t, .bool a, .slice p n c] 37 (0, 0))) := hidden (by
    rw [Below.heap_alloc _ _ _ (by simp)]; exact heap_alloc_new w _)
  have HR1 : Hid (((w.alloc (.cells #[.string s, .int .u64 (k : Int), .int .i64 f, .int .i64 t, .bool a, .slice p n c] 37)).alloc (.cells zeroC 37)).heap[w.heap.size + 1]? = some (.cells zeroC 37 (0, 0))) := hidden (heap_alloc2_new w _ _)
  have HB0 : Hid (Below w.heap.size w ((w.alloc (.cells #[.string s, .int .u64 (k : Int), .int .i64 f, .int .i64 t, .bool a, .slice p n c] 37)).alloc (.cells zeroC 37))) := hidden (((Below.refl _ w).alloc (Nat.le_refl _) _).alloc (by simp) _)
  go_enter Tryd.func21, Tryd.ntmps21
  go_upto_region 1 with fail
  generalize hw1 : World.alloc (World.alloc w _) _ = w1
  have hr0 : w1.heap[w.heap.size]? = some (.cells #[.string s, .int .u64 (k : Int), .int .i64 f, .int .i64 t, .bool a, .slice p n c] 37 (0, 0)) := by rw [← hw1]; exact HR0.out
  have hr1 : w1.heap[w.heap.size + 1]? = some (.cells zeroC 37 (0, 0)) := by rw [← hw1]; exact HR1.out
  have hb1 : Below w.heap.size w w1 := by rw [← hw1]; exact HB0.out
  have HB1 := hidden hb1
  have HZ1 := hidden hr1
  clear hw1 HR0 HR1 HB0 hb1 hr1
  go_upto_region 3 with (first
    | (refine wpList_load_row rfl 37 _ rfl w.heap.size rfl 37 _ (0, 0) _ hr0 Tryd.underlying37 rfl infoC6 ?_)
    | (go_at_call 23; (with_reducible refine (HBO.out _).mono ?_); rintro e w2 ⟨p2, n2, c2, rfl, hy2, hb2⟩; have HB2 := hidden (HB1.out.trans (hb2.mono HB1.out.size)); have HX2 := hidden hb2; clear hy2 hb2)
    | fail)
  have hz2 : w2.heap[w.heap.size + 1]? = some (.cells zeroC 37 (0, 0)) := by rw [HX2.out.block _ (Array.getElem?_eq_some_iff.1 HZ1.out).1]; exact HZ1.out
  have HZ2 := hidden hz2
  clear hr0 HZ1 HX2 hz2 HB1 HBO
  go_wp2_with (first
    | (refine wpList_store_row rfl 37 _ _ rfl (w.heap.size + 1) zeroC rfl rfl 37 _ HZ2.out infoC6 rfl (by kernel_rfl) ?_)
    | fail)
  refine ret_ct rfl rfl rfl rfl (setRow_heap w2 (w.heap.size + 1) _ _ _ _ HZ2.out) rfl ?_
  exact ⟨rfl, below_setRow HB2.out (Nat.le_succ _) _⟩
set_option maxHeartbeats 1600000 in
set_option maxRecDepth 100000 in
theorem sissue_no (x : Ct) (v : CtV x) (h0 : bodyE x ≠ 0) (sk : Nat) (w : World) :
    Calls Tryd.prog 20 #[.agg #[.string x.s, .int .u64 (x.k : Int), .int .i64 x.f, .int .i64 x.t, .bool x.a, .slice x.p x.n x.c], .int .u64 (sk : Int)] w fun e w' => e = .returned (.tuple #[.agg zeroC, .int .i64 (bodyE x)]) ∧ Below w.heap.size w w' := by
  have HBO := hidden (fun W => bodyS_any x v W)
  unfold BdG at HBO
  generalize bodyE x = E at *
  obtain ⟨s, k, f, t, a, p, n, c, gg⟩ := x
  simp only at *
  clear v
  have HR0 : Hid (((w.alloc (.cells #[.string s, .int .u64 (k : Int), .int .i64 f, .int .i64 t, .bool a, .slice p n c] 37)).alloc (.cells zeroC 37)).heap[w.heap.size]? = some (.cells #[.string s, .int .u64 (k : Int), .int .i64 f, .int .i64 t, .bool a, .slice p n c] 37 (0, 0))) := hidden (by
    rw [Below.heap_alloc _ _ _ (by simp)]; exact heap_alloc_new w _)
  have HR1 : Hid (((w.alloc (.cells #[.string s, .int .u64 (k : Int), .int .i64 f, .int .i64 t, .bool a, .slice p n c] 37)).alloc (.cells zeroC 37)).heap[w.heap.size + 1]? = some (.cells zeroC 37 (0, 0))) := hidden (heap_alloc2_new w _ _)
  have HB0 : Hid (Below w.heap.size w ((w.alloc (.cells #[.string s, .int .u64 (k : Int), .int .i64 f, .int .i64 t, .bool a, .slice p n c] 37)).alloc (.cells zeroC 37))) := hidden (((Below.refl _ w).alloc (Nat.le_refl _) _).alloc (by simp) _)
  go_enter Tryd.func20, Tryd.ntmps20
  go_upto_region 1 with fail
  generalize hw1 : World.alloc (World.alloc w _) _ = w1
  have hr0 : w1.heap[w.heap.size]? = some (.cells #[.string s, .int .u64 (k : Int), .int .i64 f, .int .i64 t, .bool a, .slice p n c] 37 (0, 0)) := by rw [← hw1]; exact HR0.out
  have hr1 : w1.heap[w.heap.size + 1]? = some (.cells zeroC 37 (0, 0)) := by rw [← hw1]; exact HR1.out
  have hb1 : Below w.heap.size w w1 := by rw [← hw1]; exact HB0.out
  have HB1 := hidden hb1
  have HZ1 := hidden hr1
  clear hw1 HR0 HR1 HB0 hb1 hr1
  go_upto_region 3 with (first
    | (refine wpList_load_row rfl 37 _ rfl w.heap.size rfl 37 _ (0, 0) _ hr0 Tryd.underlying37 rfl infoC6 ?_)
    | (go_at_call 22; (with_reducible refine (HBO.out _).mono ?_); rintro e w2 ⟨p2, n2, c2, rfl, hy2, hb2⟩; have HB2 := hidden (HB1.out.trans (hb2.mono HB1.out.size)); have HX2 := hidden hb2; clear hy2 hb2)
    | fail)
  have hz2 : w2.heap[w.heap.size + 1]? = some (.cells zeroC 37 (0, 0)) := by rw [HX2.out.block _ (Array.getElem?_eq_some_iff.1 HZ1.out).1]; exact HZ1.out
  have HZ2 := hidden hz2
  clear hr0 HZ1 HX2 hz2 HB1 HBO
  go_wp2_with (first
    | (refine wpList_store_row rfl 37 _ _ rfl (w.heap.size + 1) zeroC rfl rfl 37 _ HZ2.out infoC6 rfl (by kernel_rfl) ?_)
    | fail)
  refine ret_ct rfl rfl rfl rfl (setRow_heap w2 (w.heap.size + 1) _ _ _ _ HZ2.out) rfl ?_
  exact ⟨rfl, below_setRow HB2.out (Nat.le_succ _) _⟩
/-- The same as IssTo; the signature may lie anywhere. -/
def IssTo2 (x : Ct) (sk : Nat) (w : World) (e : Ending) (w' : World) : Prop :=
  ∃ p' n' c', e = .returned (.tuple #[.agg #[.string x.s, .int .u64 (x.k : Int), .int .i64 x.f, .int .i64 x.t, .bool x.a, .slice p' n' c'], .int .i64 0]) ∧ Byt w' p' n' c' (sigL sk (bdL x)) ∧ Below w.heap.size w w'

set_option maxHeartbeats 1600000 in
set_option maxRecDepth 100000 in
theorem sissue_ok (x : Ct) (h : CtOk x) (sk : Nat) (h1 : 1 ≤ sk) (h2 : sk < gq) (w : World) (hK : KAt w) :
    Calls Tryd.prog 20 #[.agg #[.string x.s, .int .u64 (x.k : Int), .int .i64 x.f, .int .i64 x.t, .bool x.a, .slice x.p x.n x.c], .int .u64 (sk : Int)] w (IssTo2 x sk w) := by
  have HKK := hidden (fun W (hW : Below w.heap.size w W) => hK.below hW hK.lt)
  have HBO := hidden (fun W => bodyS_ok x h W)
  have hbl := bdL_len x
  have hle := h.nm.le
  have hsl : sk < 18446744073709551616 := Nat.lt_trans h2 gq_big
  have HSI := hidden (fun (q : Option Addr) (d : Nat) W (hW : Byt W q (x.s.size + 18) d (bdL x)) (hb : Below w.heap.size w W) => signS_any sk hsl q (x.s.size + 18) d (bdL x) W hW (by omega) (HKK.out W hb))
  have hE : pubE sk = 0 := by unfold pubE; rw [if_pos (gsec_yes sk ⟨h1, h2⟩)]
  rw [hE] at HSI
  have HBL := Is.mk hbl
  unfold IssTo2
  unfold ToGE at HSI
  generalize sigL sk (bdL x) = SG at *
  generalize bdL x = L at *
  obtain ⟨s, k, f, t, a, p, n, c, gg⟩ := x
  simp only at *
  clear h h1 h2 hsl hE hbl hle
  have hr0 : ((w.alloc (.cells #[.string s, .int .u64 (k : Int), .int .i64 f, .int .i64 t, .bool a, .slice p n c] 37)).alloc (.cells zeroC 37)).heap[w.heap.size]? = some (.cells #[.string s, .int .u64 (k : Int), .int .i64 f, .int .i64 t, .bool a, .slice p n c] 37 (0, 0)) := by
    rw [Below.heap_alloc _ _ _ (by simp)]; exact heap_alloc_new w _
  have hr1 : ((w.alloc (.cells #[.string s, .int .u64 (k : Int), .int .i64 f, .int .i64 t, .bool a, .slice p n c] 37)).alloc (.cells zeroC 37)).heap[w.heap.size + 1]? = some (.cells zeroC 37 (0, 0)) := heap_alloc2_new w _ _
  have hb0 : Below w.heap.size w ((w.alloc (.cells #[.string s, .int .u64 (k : Int), .int .i64 f, .int .i64 t, .bool a, .slice p n c] 37)).alloc (.cells zeroC 37)) := ((Below.refl _ w).alloc (Nat.le_refl _) _).alloc (by simp) _
  have HR0 := hidden hr0
  have HR1 := hidden hr1
  have HB0 := hidden hb0
  clear hr0 hr1 hb0
  go_enter Tryd.func20, Tryd.ntmps20
  go_upto_region 1 with fail
  generalize hw1 : World.alloc (World.alloc w _) _ = w1
  have hr0 : w1.heap[w.heap.size]? = some (.cells #[.string s, .int .u64 (k : Int), .int .i64 f, .int .i64 t, .bool a, .slice p n c] 37 (0, 0)) := by rw [← hw1]; exact HR0.out
  have hr1 : w1.heap[w.heap.size + 1]? = some (.cells zeroC 37 (0, 0)) := by rw [← hw1]; exact HR1.out
  have hb1 : Below w.heap.size w w1 := by rw [← hw1]; exact HB0.out
  obtain ⟨G, hG⟩ : ∃ G, w.heap.size = G := ⟨_, rfl⟩
  have HG := Is.mk hG
  rw [hG] at hr0 hr1 hb1
  have hGl : G + 1 < w1.heap.size := (Array.getElem?_eq_some_iff.1 hr1).1
  have HRA := hidden (fun W (hW : Below w1.heap.size w1 W) => (by rw [hW.block G (by omega)]; exact hr0 : W.heap[G]? = some (.cells #[.string s, .int .u64 (k : Int), .int .i64 f, .int .i64 t, .bool a, .slice p n c] 37 (0, 0))))
  have HRB := hidden (fun W (hW : Below w1.heap.size w1 W) => (by rw [hW.block (G + 1) (by omega)]; exact hr1 : W.heap[G + 1]? = some (.cells zeroC 37 (0, 0))))
  have HBW := hidden hb1
  have HW0 : Hid (Below w.heap.size w w1) := hidden (by rw [hG]; exact hb1)
  simp only [hG]
  clear hw1 HR0 HR1 HB0 hr1 hb1 hG
  go_upto_region 4 with (first
    | (refine wpList_load_row rfl 37 _ rfl G rfl 37 _ (0, 0) _ hr0 Tryd.underlying37 rfl infoC6 ?_)
    | (go_at_call 22; (with_reducible refine (HBO.out _).mono ?_); rintro e w2 ⟨p2, n2, c2, rfl, hy2, hb2⟩; have hn2 := hy2.len; rw [HBL.eq] at hn2; subst hn2; have HSX := hidden (HSI.out p2 c2 w2 hy2 (HW0.out.trans (hb2.mono HW0.out.size))); have HB2 := hidden hb2; clear hy2 hb2)
    | fail)
  clear hr0
  go_upto_region 5 with (first
    | (go_at_call 25; (with_reducible refine (HSX.out).mono ?_); rintro e w3 ⟨p3, n3, c3, rfl, hy3, hb3⟩; have HY3 := hidden hy3; have HB3 := hidden (HB2.out.trans (hb3.mono HB2.out.size)); clear hy3 hb3; have hr3 := HRA.out w3 HB3.out; have hcell : w3.cell? ⟨G, 5, none⟩ = some (.slice p n c) := (by rw [cell_of_row w3 G 5 _ _ _ hr3]; rfl); have hfro : w3.frozen? ⟨G, 5, none⟩ = false := frozen_of_row w3 G 5 _ _ hr3)
    | fail)
  have hq3 := HRB.out w3 HB3.out
  have hset := setCell_eq_setRow w3 G 5 _ 37 (0, 0) (.slice p3 n3 c3) hr3
  have hr4 : (w3.setCell ⟨G, 5, none⟩ (.slice p3 n3 c3)).heap[G]? = some (.cells #[.string s, .int .u64 (k : Int), .int .i64 f, .int .i64 t, .bool a, .slice p3 n3 c3] 37 (0, 0)) := by
    rw [hset]; exact setRow_heap w3 G _ _ _ _ hr3
  have hq4 : (w3.setCell ⟨G, 5, none⟩ (.slice p3 n3 c3)).heap[G + 1]? = some (.cells zeroC 37 (0, 0)) := by
    rw [hset, setRow_other _ _ _ _ (by omega)]; exact hq3
  have HW3 := HBW.out
  have hz13 : w1.heap.size ≤ w3.heap.size := HB3.out.size
  have hy4 : Byt (w3.setCell ⟨G, 5, none⟩ (.slice p3 n3 c3)) p3 n3 c3 SG := HY3.out.grown_ct (grown_set w3 G 5 _) hr3 (by simp)
  have hb4 : Below G w (w3.setCell ⟨G, 5, none⟩ (.slice p3 n3 c3)) := (HBW.out.trans (HB3.out.mono (by omega))).setCell (p := ⟨G, 5, none⟩) (Nat.le_refl _) _
  have HR4 := hidden hr4
  have HQ4 := hidden hq4
  have HY4 := hidden hy4
  have HB4 := hidden hb4
  clear hset hr4 hq4 hr3 hq3 hy4 hb4
  clear hcell hfro
  generalize World.setCell w3 _ _ = w4 at *
  go_wp2_with (first
    | (refine wpList_load_row rfl 37 _ rfl G rfl 37 _ (0, 0) _ HR4.out Tryd.underlying37 rfl infoC6 ?_)
    | (refine wpList_store_row rfl 37 _ _ rfl (G + 1) #[.string s, .int .u64 (k : Int), .int .i64 f, .int .i64 t, .bool a, .slice p3 n3 c3] rfl rfl 37 _ HQ4.out infoC6 rfl (by kernel_rfl) ?_)
    | fail)
  refine ret_ct rfl rfl rfl rfl (setRow_heap w4 (G + 1) _ _ _ _ HQ4.out) rfl ?_
  exact ⟨p3, n3, c3, rfl, HY4.out.grown_ct (row_grown1 w4 (G + 1) _) HQ4.out (by simp [zeroC]), by rw [HG.eq]; exact below_setRow HB4.out (by omega) _⟩
end Go.Proofs.YtkniifopfgeopaaDoor
