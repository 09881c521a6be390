/-
  A selector that a list of choices spoils; a selector stored into a row.
-/
import Derived.Test.YtmjagbghgbemaaaDoorQZ4
import Derived.Test.YtmjagbghgbemaaaDoorQZ3
namespace Go.Proofs.YtmjagbghgbemaaaDoor
open Go.RowKit
set_option linter.unusedVariables false

/-- Where SpoilSelector stands: its own selector at block a, its result at block b. -/
structure SlSp (W w wx : World) (k a b : Nat) (s z : Sl) : Prop where
  cod : Cod W wx k
  gr : w.grownBy wx (some k)
  S : SlIn wx a s
  R : SlIn wx b z
section
variable {W w wx wy : World} {k a b : Nat} {s z : Sl}
theorem SlSp.grown (h : SlSp W w wx k a b s z) (ha : k < a) (hb : k < b) (hc : Cod W wy k) (hg : wx.grownBy wy (some k)) : SlSp W w wy k a b s z :=
  ⟨hc, grown_trans h.gr hg, h.S.grown hg (by simp; omega), h.R.grown hg (by simp; omega)⟩
theorem SlSp.setS (h : SlSp W w wx k a b s z) (hw : W.heap.size ≤ w.heap.size) (hk : k < w.heap.size) (hab : a < b) (ha : w.heap.size ≤ a) (j : Nat) (u : Value) (s' : Sl) (hs : SlIn (wx.setCell ⟨a, j, none⟩ u) a s') : SlSp W w (wx.setCell ⟨a, j, none⟩ u) k a b s' z :=
  ⟨h.cod.set _ _ _ (by omega) (by omega), grown_set_new h.gr _ _ _ ha, hs, h.R.set_ne _ _ _ (by omega)⟩
theorem SlSp.setLo (h : SlSp W w wx k a b s z) (hw : W.heap.size ≤ w.heap.size) (hk : k < w.heap.size) (hab : a < b) (ha : w.heap.size ≤ a) (x : Ad) : SlSp W w (((wx.setCell ⟨a, 3, none⟩ (.int .i64 x.f)).setCell ⟨a, 4, none⟩ (.int .u64 x.h)).setCell ⟨a, 5, none⟩ (.int .u64 x.l)) k a b { s with lo := x } z :=
  ⟨((h.cod.set _ _ _ (by omega) (by omega)).set _ _ _ (by omega) (by omega)).set _ _ _ (by omega) (by omega), grown_set_new (grown_set_new (grown_set_new h.gr _ _ _ ha) _ _ _ ha) _ _ _ ha, h.S.setLo x, ((h.R.set_ne _ _ _ (by omega)).set_ne _ _ _ (by omega)).set_ne _ _ _ (by omega)⟩
theorem SlSp.ret (h : SlSp W w wx k a b s z) (hw : W.heap.size ≤ w.heap.size) (hk : k < w.heap.size) (hb : w.heap.size ≤ b) : SlIn (((((((((wx.setCell ⟨b, 0, none⟩ (.int .i64 s.p)).setCell ⟨b, 1, none⟩ (.int .i64 s.a)).setCell ⟨b, 2, none⟩ (.int .i64 s.b)).setCell ⟨b, 3, none⟩ (.int .i64 s.lo.f)).setCell ⟨b, 4, none⟩ (.int .u64 s.lo.h)).setCell ⟨b, 5, none⟩ (.int .u64 s.lo.l)).setCell ⟨b, 6, none⟩ (.int .i64 s.hi.f)).setCell ⟨b, 7, none⟩ (.int .u64 s.hi.h)).setCell ⟨b, 8, none⟩ (.int .u64 s.hi.l)) b s ∧ Cod W (((((((((wx.setCell ⟨b, 0, none⟩ (.int .i64 s.p)).setCell ⟨b, 1, none⟩ (.int .i64 s.a)).setCell ⟨b, 2, none⟩ (.int .i64 s.b)).setCell ⟨b, 3, none⟩ (.int .i64 s.lo.f)).setCell ⟨b, 4, none⟩ (.int .u64 s.lo.h)).setCell ⟨b, 5, none⟩ (.int .u64 s.lo.l)).setCell ⟨b, 6, none⟩ (.int .i64 s.hi.f)).setCell ⟨b, 7, none⟩ (.int .u64 s.hi.h)).setCell ⟨b, 8, none⟩ (.int .u64 s.hi.l)) k ∧ w.grownBy (((((((((wx.setCell ⟨b, 0, none⟩ (.int .i64 s.p)).setCell ⟨b, 1, none⟩ (.int .i64 s.a)).setCell ⟨b, 2, none⟩ (.int .i64 s.b)).setCell ⟨b, 3, none⟩ (.int .i64 s.lo.f)).setCell ⟨b, 4, none⟩ (.int .u64 s.lo.h)).setCell ⟨b, 5, none⟩ (.int .u64 s.lo.l)).setCell ⟨b, 6, none⟩ (.int .i64 s.hi.f)).setCell ⟨b, 7, none⟩ (.int .u64 s.hi.h)).setCell ⟨b, 8, none⟩ (.int .u64 s.hi.l)) (some k) :=
  ⟨h.R.setAll s, (((((((((h.cod.set _ _ _ (by omega) (by omega)).set _ _ _ (by omega) (by omega)).set _ _ _ (by omega) (by omega)).set _ _ _ (by omega) (by omega)).set _ _ _ (by omega) (by omega)).set _ _ _ (by omega) (by omega)).set _ _ _ (by omega) (by omega)).set _ _ _ (by omega) (by omega)).set _ _ _ (by omega) (by omega)), (grown_set_new (grown_set_new (grown_set_new (grown_set_new (grown_set_new (grown_set_new (grown_set_new (grown_set_new (grown_set_new h.gr _ _ _ (by omega)) _ _ _ (by omega)) _ _ _ (by omega)) _ _ _ (by omega)) _ _ _ (by omega)) _ _ _ (by omega)) _ _ _ (by omega)) _ _ _ (by omega)) _ _ _ (by omega))⟩
end

/-- What SpoilSelector returns. -/
def MadeSp (W w : World) (k : Nat) (e : Ending) (w' : World) : Prop := ∃ s : Sl, e = .returned (.agg #[.int .i64 s.p, .int .i64 s.a, .int .i64 s.b, .int .i64 s.lo.f, .int .u64 s.lo.h, .int .u64 s.lo.l, .int .i64 s.hi.f, .int .u64 s.hi.h, .int .u64 s.hi.l]) ∧ FitS s ∧ Cod W w' k ∧ w.grownBy w' (some k)

set_option maxHeartbeats 1600000 in
set_option maxRecDepth 100000 in
theorem spoilSel_any (W w : World) (k : Nat) (h : Cod W w k) (s : Sl) (hs : FitS s) :
    Calls Tryd.prog 29 #[.pointer (some ⟨k, 0, none⟩), (.agg #[.int .i64 s.p, .int .i64 s.a, .int .i64 s.b, .int .i64 s.lo.f, .int .u64 s.lo.h, .int .u64 s.lo.l, .int .i64 s.hi.f, .int .u64 s.hi.h, .int .u64 s.hi.l])] w (MadeSp W w k) := by
  have hk := h.lt
  have hbase := h.bel.size
  have H0 : Hid (SlSp W w ((w.alloc (.cells #[.int .i64 s.p, .int .i64 s.a, .int .i64 s.b, .int .i64 s.lo.f, .int .u64 s.lo.h, .int .u64 s.lo.l, .int .i64 s.hi.f, .int .u64 s.hi.h, .int .u64 s.hi.l] 74)).alloc (.cells #[.int .i64 0, .int .i64 0, .int .i64 0, .int .i64 0, .int .u64 0, .int .u64 0, .int .i64 0, .int .u64 0, .int .u64 0] 74)) k w.heap.size (w.heap.size + 1) s ⟨0, 0, 0, ⟨0, 0, 0⟩, ⟨0, 0, 0⟩⟩) := hidden ⟨(h.alloc _).alloc _, grown_alloc_new (grown_alloc_new (grown_refl w _) _) _, (SlIn.new w s _).alloc _, by
    have := SlIn.new (w.alloc (.cells #[.int .i64 s.p, .int .i64 s.a, .int .i64 s.b, .int .i64 s.lo.f, .int .u64 s.lo.h, .int .u64 s.lo.l, .int .i64 s.hi.f, .int .u64 s.hi.h, .int .u64 s.hi.l] 74)) ⟨0, 0, 0, ⟨0, 0, 0⟩, ⟨0, 0, 0⟩⟩ 74
    simpa using this⟩
  have HF := hidden hs
  clear h hs
  have hn1 : ¬ w.heap.size = w.heap.size + 1 := by omega
  have hn2 : ¬ w.heap.size + 1 = w.heap.size := by omega
  go_enter Tryd.func29, Tryd.ntmps29
  go_upto_region 3 with (first
    | (go_at_call_of 25 (Value.int IntKind.i64 5); (with_reducible refine (next_any W _ k H0.out.cod _ ?_).mono ?_); omega; rintro e w1 ⟨r, rfl, r0, r1, hc, hg⟩; have H1 := hidden (H0.out.grown hk (by omega) hc hg); clear hc hg H0)
    | fail)
  have hr : r = 0 ∨ r = 1 ∨ r = 2 ∨ r = 3 ∨ r = 4 := by omega
  rcases hr with rfl | rfl | rfl | rfl | rfl
  · go_wp2_with (first
      | (go_at_call 26; (with_reducible refine (int_any W _ k H1.out.cod).mono ?_); rintro e w2 ⟨x, rfl, x0, x1, hc, hg⟩; have H2 := hidden (H1.out.grown hk (by omega) hc hg); obtain ⟨s0, s1, s2, s3, s4, s5, s6, s7, s8, sf⟩ := H2.out.S; obtain ⟨q0, q1, q2, q3, q4, q5, q6, q7, q8, qf⟩ := H2.out.R; have H3 := hidden (H2.out.setS hbase hk (by omega) (Nat.le_refl _) 0 (.int .i64 x) { s with p := x } (H2.out.S.setP x)); clear hc hg H1 H2)
      | fail)
    obtain ⟨z1, z2, z3⟩ := H3.out.ret hbase hk (by omega)
    refine ret_sl (g := w.heap.size + 1) (s := { s with p := x }) rfl rfl rfl z1 ?_
    exact ⟨_, rfl, ⟨⟨x0, x1⟩, HF.out.a, HF.out.b, HF.out.lo, HF.out.hi⟩, z2, z3⟩
  · go_wp2_with (first
      | (go_at_call 26; (with_reducible refine (int_any W _ k H1.out.cod).mono ?_); rintro e w2 ⟨x, rfl, x0, x1, hc, hg⟩; have H2 := hidden (H1.out.grown hk (by omega) hc hg); obtain ⟨s0, s1, s2, s3, s4, s5, s6, s7, s8, sf⟩ := H2.out.S; obtain ⟨q0, q1, q2, q3, q4, q5, q6, q7, q8, qf⟩ := H2.out.R; have H3 := hidden (H2.out.setS hbase hk (by omega) (Nat.le_refl _) 1 (.int .i64 x) { s with a := x } (H2.out.S.setA x)); clear hc hg H1 H2)
      | fail)
    obtain ⟨z1, z2, z3⟩ := H3.out.ret hbase hk (by omega)
    refine ret_sl (g := w.heap.size + 1) (s := { s with a := x }) rfl rfl rfl z1 ?_
    exact ⟨_, rfl, ⟨HF.out.p, ⟨x0, x1⟩, HF.out.b, HF.out.lo, HF.out.hi⟩, z2, z3⟩
  · go_wp2_with (first
      | (go_at_call 26; (with_reducible refine (int_any W _ k H1.out.cod).mono ?_); rintro e w2 ⟨x, rfl, x0, x1, hc, hg⟩; have H2 := hidden (H1.out.grown hk (by omega) hc hg); obtain ⟨s0, s1, s2, s3, s4, s5, s6, s7, s8, sf⟩ := H2.out.S; obtain ⟨q0, q1, q2, q3, q4, q5, q6, q7, q8, qf⟩ := H2.out.R; have H3 := hidden (H2.out.setS hbase hk (by omega) (Nat.le_refl _) 2 (.int .i64 x) { s with b := x } (H2.out.S.setB x)); clear hc hg H1 H2)
      | fail)
    obtain ⟨z1, z2, z3⟩ := H3.out.ret hbase hk (by omega)
    refine ret_sl (g := w.heap.size + 1) (s := { s with b := x }) rfl rfl rfl z1 ?_
    exact ⟨_, rfl, ⟨HF.out.p, HF.out.a, ⟨x0, x1⟩, HF.out.lo, HF.out.hi⟩, z2, z3⟩
  · go_wp2_with (first
      | (go_at_call 54; (with_reducible refine (addr_any W _ k H1.out.cod 6 (Or.inr rfl)).mono ?_); rintro e w2 ⟨x, rfl, hx, hc, hg⟩; have H2 := hidden (H1.out.grown hk (by omega) hc hg); obtain ⟨s0, s1, s2, s3, s4, s5, s6, s7, s8, sf⟩ := H2.out.S; obtain ⟨q0, q1, q2, q3, q4, q5, q6, q7, q8, qf⟩ := H2.out.R; have H3 := hidden (H2.out.setLo hbase hk (by omega) (Nat.le_refl _) x); clear hc hg H1 H2)
      | fail)
    obtain ⟨z1, z2, z3⟩ := H3.out.ret hbase hk (by omega)
    refine ret_sl (g := w.heap.size + 1) (s := { s with lo := x }) rfl rfl rfl z1 ?_
    exact ⟨_, rfl, ⟨HF.out.p, HF.out.a, HF.out.b, hx.fit, HF.out.hi⟩, z2, z3⟩
  · go_wp2_with (first
      | (go_at_call 55; (with_reducible refine (word_any W _ k H1.out.cod).mono ?_); rintro e w2 ⟨x, rfl, x0, x1, hc, hg⟩; have H2 := hidden (H1.out.grown hk (by omega) hc hg); obtain ⟨s0, s1, s2, s3, s4, s5, s6, s7, s8, sf⟩ := H2.out.S; obtain ⟨q0, q1, q2, q3, q4, q5, q6, q7, q8, qf⟩ := H2.out.R; have H3 := hidden (H2.out.setS hbase hk (by omega) (Nat.le_refl _) 8 (.int .u64 x) { s with hi := ⟨s.hi.f, s.hi.h, x⟩ } ⟨by go_simp, by go_simp, by go_simp, by go_simp, by go_simp, by go_simp, by go_simp, by go_simp, by go_simp, fun j => by rw [World.frozen?_setCell]; exact sf j⟩); clear hc hg H1 H2)
      | fail)
    obtain ⟨z1, z2, z3⟩ := H3.out.ret hbase hk (by omega)
    refine ret_sl (g := w.heap.size + 1) (s := { s with hi := ⟨s.hi.f, s.hi.h, x⟩ }) rfl rfl rfl z1 ?_
    exact ⟨_, rfl, ⟨HF.out.p, HF.out.a, HF.out.b, HF.out.lo, ⟨HF.out.hi.f, HF.out.hi.h, ⟨x0, x1⟩⟩⟩, z2, z3⟩

theorem nine_set (A C : List Value) (x0 x1 x2 x3 x4 x5 x6 x7 x8 y0 y1 y2 y3 y4 y5 y6 y7 y8 : Value) (m : Nat) (hm : A.length = m) :
    (((((((((A ++ (x0 :: x1 :: x2 :: x3 :: x4 :: x5 :: x6 :: x7 :: x8 :: C)).set m y0).set (m + 1) y1).set (m + 2) y2).set (m + 3) y3).set (m + 4) y4).set (m + 5) y5).set (m + 6) y6).set (m + 7) y7).set (m + 8) y8 = A ++ (y0 :: y1 :: y2 :: y3 :: y4 :: y5 :: y6 :: y7 :: y8 :: C) := by
  subst hm
  have h : ∀ (B : List Value) (i : Nat) (u : Value), (A ++ B).set (A.length + i) u = A ++ B.set i u := fun B i u => by
    rw [List.set_append_right _ _ (by omega), show A.length + i - A.length = i by omega]
  have h0 := h (x0 :: x1 :: x2 :: x3 :: x4 :: x5 :: x6 :: x7 :: x8 :: C) 0 y0
  rw [Nat.add_zero] at h0
  rw [h0, h, h, h, h, h, h, h, h]
  rfl
theorem row_split (l : List Sl) (j : Nat) (hj : j < l.length) : KSl.row l = KSl.row (l.take j) ++ (KSl.cs l[j] ++ KSl.row (l.drop (j + 1))) := by
  have : l = l.take j ++ l[j] :: l.drop (j + 1) := by simp
  conv => lhs; rw [this]
  rw [KSl.row_append, KSl.row_cons]
theorem row_setSl (l : List Sl) (j : Nat) (hj : j < l.length) (s : Sl) : KSl.row (l.set j s) = KSl.row (l.take j) ++ (KSl.cs s ++ KSl.row (l.drop (j + 1))) := by
  rw [List.set_eq_take_append_cons_drop, if_pos hj, KSl.row_append, KSl.row_cons]
/-- A whole selector stored into the row. -/
theorem RowG.setSl {w : World} {base g n c : Nat} {l : List Sl} (h : RowG KSl NSl w base (.slice (some ⟨g, 0, none⟩) n c) l) (hn : l.length = n) (j : Nat) (hj : j < l.length) (s : Sl) (hs : FitS s) :
    RowG KSl NSl (((((((((w.setCell ⟨g, j * 9, none⟩ (.int .i64 s.p)).setCell ⟨g, j * 9 + 1, none⟩ (.int .i64 s.a)).setCell ⟨g, j * 9 + 2, none⟩ (.int .i64 s.b)).setCell ⟨g, j * 9 + 3, none⟩ (.int .i64 s.lo.f)).setCell ⟨g, j * 9 + 4, none⟩ (.int .u64 s.lo.h)).setCell ⟨g, j * 9 + 5, none⟩ (.int .u64 s.lo.l)).setCell ⟨g, j * 9 + 6, none⟩ (.int .i64 s.hi.f)).setCell ⟨g, j * 9 + 7, none⟩ (.int .u64 s.hi.h)).setCell ⟨g, j * 9 + 8, none⟩ (.int .u64 s.hi.l)) base (.slice (some ⟨g, 0, none⟩) n c) (l.set j s) := by
  refine ⟨?_, fun x hx => ?_⟩
  · have h0 := h.own
    rw [hn] at h0
    have e := nine_set (KSl.row (l.take j)) (KSl.row (l.drop (j + 1))) (.int .i64 l[j].p) (.int .i64 l[j].a) (.int .i64 l[j].b) (.int .i64 l[j].lo.f) (.int .u64 l[j].lo.h) (.int .u64 l[j].lo.l) (.int .i64 l[j].hi.f) (.int .u64 l[j].hi.h) (.int .u64 l[j].hi.l)
      (.int .i64 s.p) (.int .i64 s.a) (.int .i64 s.b) (.int .i64 s.lo.f) (.int .u64 s.lo.h) (.int .u64 s.lo.l) (.int .i64 s.hi.f) (.int .u64 s.hi.h) (.int .u64 s.hi.l) (j * 9) (by rw [KSl.row_len, List.length_take, Nat.min_eq_left (by omega)]; rfl)
    have e1 : KSl.row l = KSl.row (l.take j) ++ (.int .i64 l[j].p :: .int .i64 l[j].a :: .int .i64 l[j].b :: .int .i64 l[j].lo.f :: .int .u64 l[j].lo.h :: .int .u64 l[j].lo.l :: .int .i64 l[j].hi.f :: .int .u64 l[j].hi.h :: .int .u64 l[j].hi.l :: KSl.row (l.drop (j + 1))) := row_split l j hj
    have e2 : KSl.row (l.set j s) = KSl.row (l.take j) ++ (.int .i64 s.p :: .int .i64 s.a :: .int .i64 s.b :: .int .i64 s.lo.f :: .int .u64 s.lo.h :: .int .u64 s.lo.l :: .int .i64 s.hi.f :: .int .u64 s.hi.h :: .int .u64 s.hi.l :: KSl.row (l.drop (j + 1))) := row_setSl l j hj s
    rw [← e1, ← e2] at e
    rw [List.length_set, hn, ← e]
    have k1 := (World.ownsRow.stored h0 (j * 9) (.int .i64 s.p)).1
    have k2 := (World.ownsRow.stored k1 (j * 9 + 1) (.int .i64 s.a)).1
    have k3 := (World.ownsRow.stored k2 (j * 9 + 2) (.int .i64 s.b)).1
    have k4 := (World.ownsRow.stored k3 (j * 9 + 3) (.int .i64 s.lo.f)).1
    have k5 := (World.ownsRow.stored k4 (j * 9 + 4) (.int .u64 s.lo.h)).1
    have k6 := (World.ownsRow.stored k5 (j * 9 + 5) (.int .u64 s.lo.l)).1
    have k7 := (World.ownsRow.stored k6 (j * 9 + 6) (.int .i64 s.hi.f)).1
    have k8 := (World.ownsRow.stored k7 (j * 9 + 7) (.int .u64 s.hi.h)).1
    exact (World.ownsRow.stored k8 (j * 9 + 8) (.int .u64 s.hi.l)).1
  · rcases List.mem_or_eq_of_mem_set hx with hx | rfl
    · exact h.ok x hx
    · exact hs
end Go.Proofs.YtmjagbghgbemaaaDoor
